import Derived.Test.YtmnafocmbcgdiacVRI
import Derived.Test.YtmnafocmbcgdiacVY
import Derived.Test.YtmnafocmbcgdiacVT
import Derived.Laws.AppendOwn
import Derived.Great.BuildSlice
import Derived.Test.YtmnafocmbcgdiacWD
import Derived.Test.YtmnafocmbcgdiacWT
import Derived.Test.YtmnafocmbcgdiacWS
import Derived.Test.YtmnafocmbcgdiacWU
import Derived.Test.YtmnafocmbcgdiacWLS
/-
  A drawn region inside a round, some of whose operations are guarded.
-/
namespace Go.Proofs.Ytmnafocmbcgdiac.N
set_option maxHeartbeats 1000000

def monoG (ops : Array Oper) (n : Nat) (dst : Nat → Tmp) (size : Nat) : Bool :=
  decide (n < ops.size) && Region.sinkB .any ops n && Region.chainB .any ops n && Region.seqB .any ops (ops.size - n) n (canon ops.size n) &&
  (List.range n).all (fun i => decide (dst i < size) && ((ops[i]?).map fun o => decide (o.dst = some (dst i)) && o.after.all fun e => decide (e.on < i)).getD false && (List.range n).all fun j => decide (j = i) || decide (dst j ≠ dst i))

/-- One operation, wanted or not. -/
def opAt (Fe : Fence) (m : Nat) (P : Program) (ops : Array Oper) (o : Oper) (a : Act) (w : World) (K : Act → World → Prop) (Q : Exit → Act → World → Prop) : Prop :=
  if Region.wanted o (yielded ops a.tmps) then o.wpIn Fe m P a w K Q else (∀ f, o.about P w a.eval = some f → Fe.fn f) ∧ K (a.put o.dst undef) w

theorem opAt_mono {Fe : Fence} {m : Nat} {P : Program} {ops : Array Oper} {o : Oper} {a : Act} {w : World} {K K' : Act → World → Prop} {Q : Exit → Act → World → Prop} (h : ∀ a w, K a w → K' a w) (hh : opAt Fe m P ops o a w K Q) : opAt Fe m P ops o a w K' Q := by
  unfold opAt at *
  split
  · rename_i hw; rw [if_pos hw] at hh; exact Oper.wpIn_mono h hh
  · rename_i hw; rw [if_neg hw] at hh; exact ⟨hh.1, h _ _ hh.2⟩

theorem opAt_plain {Fe : Fence} {m : Nat} {P : Program} {ops : Array Oper} {o : Oper} {a : Act} {w : World} {K : Act → World → Prop} {Q : Exit → Act → World → Prop} (hg : o.guard = none) (h : o.wpIn Fe m P a w K Q) : opAt Fe m P ops o a w K Q := by
  unfold opAt
  rw [if_pos (by unfold Region.wanted; rw [hg])]
  exact h

theorem yields_at {ops : Array Oper} {a : Act} {j t : Nat} {b : Bool} (hj : (ops[j]?).bind (·.dst) = some t) (he : a.eval (.tmp t) = .bool b) : yielded ops a.tmps j = some b := by
  unfold yielded
  rw [hj]
  have h : a.tmps[t]?.getD undef = .bool b := by simpa [Act.eval] using he
  cases hq : a.tmps[t]? with
  | none => rw [hq] at h; cases h
  | some x => rw [hq] at h; simp at h; subst h; simp [hq]

theorem opAt_go {Fe : Fence} {m : Nat} {P : Program} {ops : Array Oper} {o : Oper} {a : Act} {w : World} {K : Act → World → Prop} {Q : Exit → Act → World → Prop} {j t : Nat} {b : Bool} (hg : o.guard = some (j, b)) (hj : (ops[j]?).bind (·.dst) = some t) (he : a.eval (.tmp t) = .bool b) (h : o.wpIn Fe m P a w K Q) : opAt Fe m P ops o a w K Q := by
  unfold opAt
  rw [if_pos (by unfold Region.wanted; rw [hg]; simp [yields_at hj he])]
  exact h

theorem opAt_skip {l m : Nat} {P : Program} {ops : Array Oper} {o : Oper} {a : Act} {w : World} {K : Act → World → Prop} {Q : Exit → Act → World → Prop} {j t : Nat} {b : Bool} (hg : o.guard = some (j, b)) (hj : (ops[j]?).bind (·.dst) = some t) (he : a.eval (.tmp t) = .bool (!b)) (h : K (a.put o.dst undef) w) : opAt (Fence.wide.inRound l) m P ops o a w K Q := by
  unfold opAt
  rw [if_neg (by unfold Region.wanted; rw [hg]; simp [yields_at hj he])]
  exact ⟨fun _ _ => trivial, h⟩

theorem wpIn_region_guarded {Fe : Fence} {m : Nat} {P : Program} {id : Nat} {Q : Exit → Act → World → Prop} {a0 : Act} {W : World} {l : List Oper} (n : Nat) (dst : Nat → Tmp) (F : Nat → Value → World → Prop) (I : World → Prop) (R : Nat → World → World → Prop) (hm : P.follows .mixedOrders = true) (hB : monoG l.toArray n dst a0.tmps.size = true)
    (hI : I { W with drawn := W.drawn + 1 })
    (hF : ∀ i j v w w', i ≠ j → F i v w → I w → R j w w' → F i v w')
    (hstep : ∀ i o, i < n → l[i]? = some o → ∀ (a : Act) (w : World) (vs : Nat → Value), I w → (∀ s, (∀ j, j < n → dst j ≠ s) → a.eval (.tmp s) = a0.eval (.tmp s)) →
      (∀ e ∈ o.after, Region.binds .any e = true → e.on < n → a.eval (.tmp (dst e.on)) = vs e.on ∧ F e.on (vs e.on) w) →
      opAt Fe m P l.toArray o a w (fun a' w' => ∃ v, a' = a.put (some (dst i)) v ∧ F i v w' ∧ I w' ∧ R i w w') Q)
    (hend : ∀ (vs : Nat → Value) (w : World), I w → (∀ i, i < n → F i (vs i) w) → wpListIn Fe m P l.toArray Q (l.drop n) (puts a0 dst vs (fun _ => true) (List.range n)) w) :
    (Code.region id l.toArray true).wpIn Fe m P Q a0 W := by
  simp only [monoG, Bool.and_eq_true, decide_eq_true_eq, List.all_eq_true, List.mem_range] at hB
  obtain ⟨⟨⟨⟨hn, hs⟩, hc⟩, hseq⟩, hall⟩ := hB
  have hinj : ∀ i, i < n → ∀ j, j < n → j ≠ i → dst j ≠ dst i := fun i hi j hj hne => by
    have := (hall i hi).2 j hj
    simp only [Bool.or_eq_true, decide_eq_true_eq] at this
    exact this.resolve_left hne
  have hop : ∀ i o, i < n → l.toArray[i]? = some o → (o.dst = some (dst i)) ∧ ∀ e ∈ o.after, e.on < i := fun i o hi ho => by
    have := (hall i hi).1.2
    rw [ho] at this
    simp only [Option.map_some, Option.getD_some, Bool.and_eq_true, decide_eq_true_eq, Array.all_eq_true_iff_forall_mem] at this
    exact this
  refine wpIn_region_any hm ?_
  have main : ∀ (f : Nat) (listed : Array Bool) (vs : Nat → Value) (w : World), (List.range n).countP (fun j => !listed.getD j false) = f → HeadInv .any l.toArray n listed →
      I w → (∀ i, i < n → listed.getD i false = true → F i (vs i) w) →
      wpAnyIn Fe m P .any l.toArray Q (f + (l.toArray.size - n)) listed (puts a0 dst vs (fun i => listed.getD i false) (List.range n)) w := by
    intro f
    induction f with
    | zero =>
      intro listed vs w hcnt inv hb hf
      have hall2 : ∀ i, i < n → listed.getD i false = true := fun i hi => by
        have := List.countP_eq_zero.1 hcnt i (List.mem_range.2 hi)
        simpa using this
      have hcan : listed = canon l.toArray.size n := by
        apply Array.ext
        · rw [inv.size]; simp [canon]
        · intro i h1 h2
          simp only [canon, List.getElem_toArray, List.getElem_map, List.getElem_range]
          by_cases hi : i < n
          · have := hall2 i hi
            simpa [h1, hi] using this
          · have := inv.tail i (by omega) (by rw [inv.size] at h1; exact h1)
            simpa [h1, hi] using this
      have he : puts a0 dst vs (fun i => listed.getD i false) (List.range n) = puts a0 dst vs (fun _ => true) (List.range n) := puts_congr (fun i hi => ⟨hall2 i (List.mem_range.1 hi), rfl⟩)
      rw [he, hcan, Nat.zero_add]
      have hdl : (l.drop n).length = l.toArray.size - n := by simp
      have := wpAnyIn_of_seq (Fe := Fe) (m := m) (P := P) (ops := l.toArray) (md := .any) (Q' := Q) (l.drop n) n (canon l.toArray.size n) _ w (fun j => by simp [List.getElem?_drop]) (by rw [hdl]; exact hseq) (hend vs w hb (fun i hi => hf i hi (hall2 i hi)))
      rwa [hdl] at this
    | succ f ih =>
      intro listed vs w hcnt inv hb hf
      obtain ⟨i0, hi0, hu0⟩ : ∃ i, i < n ∧ listed.getD i false = false := by
        have hpos : 0 < (List.range n).countP (fun j => !listed.getD j false) := by omega
        obtain ⟨i, hi, hp⟩ := List.countP_pos_iff.1 hpos
        exact ⟨i, List.mem_range.1 hi, by simpa using hp⟩
      have hi0s : i0 < listed.size := by rw [inv.size]; omega
      have hwait := tail_waits hs hc hn inv _ i0 rfl hi0 (getD_in hi0s hu0)
      rw [show f + 1 + (l.toArray.size - n) = (f + (l.toArray.size - n)) + 1 by omega]
      refine ⟨fun h0 => ?_, fun i hi => ?_⟩
      · -- something is ready: the least that is not listed
        exfalso
        have hex : ∃ k, k < n ∧ listed.getD k false = false ∧ ∀ j, j < k → listed.getD j false = true := by
          have : ∀ m, (∃ j, j < m ∧ listed.getD j false = false) → ∃ k, k < m ∧ listed.getD k false = false ∧ ∀ j, j < k → listed.getD j false = true := by
            intro m
            induction m with
            | zero => rintro ⟨j, hj, _⟩; omega
            | succ m ihm =>
              rintro ⟨j, hj, hjf⟩
              by_cases hex : ∃ j, j < m ∧ listed.getD j false = false
              · obtain ⟨k, hk, h1, h2⟩ := ihm hex
                exact ⟨k, by omega, h1, h2⟩
              · refine ⟨m, by omega, ?_, fun j' hj' => ?_⟩
                · have : j = m := by
                    rcases Nat.lt_or_ge j m with h | h
                    · exact absurd ⟨j, h, hjf⟩ hex
                    · omega
                  rw [← this]; exact hjf
                · cases hq : listed.getD j' false with
                  | true => rfl
                  | false => exact absurd ⟨j', hj', hq⟩ hex
          exact this n ⟨i0, hi0, hu0⟩
        obtain ⟨k, hk, hku, hkl⟩ := hex
        have hks : k < l.toArray.size := by omega
        have hr : k ∈ Region.ready .any l.toArray listed := mem_ready.2 ⟨getD_in (by rw [inv.size]; exact hks) hku, _, Array.getElem?_eq_getElem hks, fun e he _ => hkl e.on ((hop k _ hk (Array.getElem?_eq_getElem hks)).2 e he)⟩
        rw [h0] at hr
        cases hr
      · have hin : i < n := by
          rcases Nat.lt_or_ge i n with h | h
          · exact h
          · exact absurd hi (hwait i h)
        obtain ⟨hun, o, ho, hdep⟩ := mem_ready.1 hi
        obtain ⟨hd, _⟩ := hop i o hin ho
        have hiu := getD_both hun
        have his : i < listed.size := by rw [inv.size]; omega
        unfold wpOpIn
        simp only [ho]
        have H := hstep i o hin (by simpa using ho) (puts a0 dst vs (fun i => listed.getD i false) (List.range n)) w vs hb (fun s hs' => puts_old (fun j hj => hs' j (List.mem_range.1 hj))) (fun e he hbi hen => ⟨puts_at (by have := (hall e.on hen).1.1; simpa using this) (hdep e he hbi) (List.mem_range.2 hen) (fun j hj hne => hinj e.on hen j (List.mem_range.1 hj) hne), hf e.on hen (hdep e he hbi)⟩)
        refine opAt_mono (fun a' w' ⟨v, ha', hfv, hiw, hbw⟩ => ?_) H
        rw [ha', puts_set (vs' := fun j => if j = i then v else vs j) (p' := fun j => (listed.setIfInBounds i true).getD j false) (List.nodup_range) (List.mem_range.2 hin) hiu (by simp [his]) (by simp) (fun j hj hne => ⟨getD_set_ne false (Ne.symm hne), by simp [hne], hinj i hin j (List.mem_range.1 hj) hne⟩)]
        refine ih _ _ w' ?_ (inv.set hi hin) hiw (fun j hj hlj => ?_)
        · have := countP_point (L := List.range n) List.nodup_range (List.mem_range.2 hin) (p := fun j => !listed.getD j false) (q := fun j => !(listed.setIfInBounds i true).getD j false) (by simp only [hiu]; rfl) (by simp [his]) (fun j _ hne => by simp only [getD_set_ne false (Ne.symm hne)])
          omega
        · by_cases hji : j = i
          · subst hji; simpa using hfv
          · simp only [hji, if_false]
            rw [getD_set_ne false (Ne.symm hji)] at hlj
            exact hF j i _ w w' hji (hf j hj hlj) hb hbw
  have inv0 : HeadInv .any l.toArray n (Array.replicate l.toArray.size false) :=
    ⟨by simp, fun j oj _ hl => (by rw [getD_replicate_false] at hl; cases hl), fun t _ ht => getD_in (by simpa using ht) (getD_replicate_false _ _)⟩
  have hcnt : (List.range n).countP (fun j => !(Array.replicate l.toArray.size false).getD j false) = n := by
    rw [List.countP_eq_length.2 (fun j _ => by rw [getD_replicate_false]; rfl), List.length_range]
  have H := main n _ (fun _ => undef) { W with drawn := W.drawn + 1 } hcnt inv0 hI (fun i _ h => by rw [getD_replicate_false] at h; cases h)
  have he : puts a0 dst (fun _ => undef) (fun i => (Array.replicate l.toArray.size false).getD i false) (List.range n) = a0 := by
    have : ∀ L : List Nat, puts a0 dst (fun _ => undef) (fun i => (Array.replicate l.toArray.size false).getD i false) L = a0 := by
      intro L
      induction L with
      | nil => rfl
      | cons x L ih =>
        simp only [puts, List.foldr_cons] at ih ⊢
        rw [getD_replicate_false, ih]
        rfl
    exact this _
  rw [he, show n + (l.toArray.size - n) = l.toArray.size by omega] at H
  exact H

def stepsG (Fe : Fence) (m : Nat) (P : Program) (Q : Exit → Act → World → Prop) (a0 : Act) (n : Nat) (dst : Nat → Tmp) (F : Nat → Value → World → Prop) (I : World → Prop) (R : Nat → World → World → Prop) (ops : Array Oper) : Nat → List Oper → Prop
  | _, [] => True
  | i, o :: rest => (∀ (a : Act) (w : World) (vs : Nat → Value), I w → (∀ s, (∀ j, j < n → dst j ≠ s) → a.eval (.tmp s) = a0.eval (.tmp s)) →
      (∀ e ∈ o.after, Region.binds .any e = true → e.on < n → a.eval (.tmp (dst e.on)) = vs e.on ∧ F e.on (vs e.on) w) →
      opAt Fe m P ops o a w (fun a' w' => ∃ v, a' = a.put (some (dst i)) v ∧ F i v w' ∧ I w' ∧ R i w w') Q) ∧ stepsG Fe m P Q a0 n dst F I R ops (i + 1) rest

theorem stepsG.at {Fe : Fence} {m : Nat} {P : Program} {Q : Exit → Act → World → Prop} {a0 : Act} {n : Nat} {dst : Nat → Tmp} {F : Nat → Value → World → Prop} {I : World → Prop} {R : Nat → World → World → Prop} {ops : Array Oper} : ∀ (l : List Oper) (k : Nat), stepsG Fe m P Q a0 n dst F I R ops k l → ∀ (i : Nat) (o : Oper), l[i]? = some o → ∀ (a : Act) (w : World) (vs : Nat → Value), I w → (∀ s, (∀ j, j < n → dst j ≠ s) → a.eval (.tmp s) = a0.eval (.tmp s)) →
      (∀ e ∈ o.after, Region.binds .any e = true → e.on < n → a.eval (.tmp (dst e.on)) = vs e.on ∧ F e.on (vs e.on) w) →
      opAt Fe m P ops o a w (fun a' w' => ∃ v, a' = a.put (some (dst (k + i))) v ∧ F (k + i) v w' ∧ I w' ∧ R (k + i) w w') Q
  | [], _, _, i, o, h => by simp at h
  | x :: l, k, hs, 0, o, h => by
    simp only [List.getElem?_cons_zero, Option.some.injEq] at h
    subst h
    exact hs.1
  | x :: l, k, hs, i + 1, o, h => by
    have := stepsG.at l (k + 1) hs.2 i o (by simpa using h)
    rw [show k + (i + 1) = k + 1 + i by omega]
    exact this

theorem wpIn_region_guarded' {Fe : Fence} {m : Nat} {P : Program} {id : Nat} {Q : Exit → Act → World → Prop} {a0 : Act} {W : World} {l : List Oper} (n : Nat) (dst : Nat → Tmp) (F : Nat → Value → World → Prop) (I : World → Prop) (R : Nat → World → World → Prop) (hm : P.follows .mixedOrders = true) (hB : monoG l.toArray n dst a0.tmps.size = true)
    (hI : I { W with drawn := W.drawn + 1 })
    (hF : ∀ i j v w w', i ≠ j → F i v w → I w → R j w w' → F i v w')
    (hstep : stepsG Fe m P Q a0 n dst F I R l.toArray 0 (l.take n))
    (hend : ∀ (vs : Nat → Value) (w : World), I w → (∀ i, i < n → F i (vs i) w) → wpListIn Fe m P l.toArray Q (l.drop n) (puts a0 dst vs (fun _ => true) (List.range n)) w) :
    (Code.region id l.toArray true).wpIn Fe m P Q a0 W :=
  wpIn_region_guarded n dst F I R hm hB hI hF (fun i o hi ho => by
    have := hstep.at _ _ i o (by rw [List.getElem?_take_of_lt hi]; exact ho)
    rwa [Nat.zero_add] at this) hend

end Go.Proofs.Ytmnafocmbcgdiac.N

/-
  A range over an iterator that has rows of nodes of its own: what both sides keep.
-/
namespace Go.Proofs.Ytmnafocmbcgdiac
open Go.RowKit Go.Shelf

/-- What an iterator may turn: what is no cells, rows of nodes, and the box of a yield. -/
def Mine (o : Obj) : Prop := o.isCells = false ∨ (∃ cs, o = .cells cs 51) ∨ ∃ cs, o = .cells cs 85

/-- The invariant abides what an iterator turns from B on. -/
def OwnN {β : Type} (B : Nat) (I : β → World → Prop) : Prop :=
  ∀ s W W' row, I s W → W.grownBy W' row → (∀ r, row = some r → B ≤ r ∧ ∃ o : Obj, W.heap[r]? = some o ∧ Mine o) → I s W'

/-- What a round keeps: all that an iterator may have laid from B on. -/
structure KeepsN (B : Nat) (W W' : World) : Prop where
  size : W.heap.size ≤ W'.heap.size
  same : ∀ k o, B ≤ k → W.heap[k]? = some o → Mine o → W'.heap[k]? = some o

theorem KeepsN.refl (B : Nat) (W : World) : KeepsN B W W := ⟨Nat.le_refl _, fun _ _ _ h _ => h⟩
theorem KeepsN.trans {B : Nat} {X Y Z : World} (h : KeepsN B X Y) (k : KeepsN B Y Z) : KeepsN B X Z := ⟨Nat.le_trans h.size k.size, fun _ _ hB hi ho => k.same _ _ hB (h.same _ _ hB hi ho) ho⟩
theorem KeepsN.mono {B C : Nat} {W W' : World} (h : KeepsN B W W') (hB : B ≤ C) : KeepsN C W W' := ⟨h.size, fun k o hk => h.same k o (Nat.le_trans hB hk)⟩
theorem KeepsN.of_below {B : Nat} {W W' : World} (h : Below W.heap.size W W') : KeepsN B W W' := ⟨h.size, fun k _ _ hk _ => (h.block k (Array.getElem?_eq_some_iff.1 hk).1).trans hk⟩
theorem KeepsN.of_put {B l : Nat} {W : World} (o : Obj) (h : l < B) : KeepsN B W (W.putObj l o) := ⟨by simp, fun _ _ hk h1 _ => (World.putObj_heap_other (by omega)).trans h1⟩
theorem KeepsN.from {B : Nat} {W W' : World} (h : KeepsN B W W') : KeepsFrom B W W' := ⟨h.size, fun k o hk h1 h2 => h.same k o hk h1 (.inl h2)⟩

theorem OwnN.putObj {β : Type} {B : Nat} {I : β → World → Prop} (h : OwnN B I) {s : β} {W : World} {l : Nat} {o : Obj} (o' : Obj) (hs : I s W) (hB : B ≤ l) (hl : W.heap[l]? = some o) (ho : Mine o) : I s (W.putObj l o') :=
  h s W _ (some l) hs (grownBy_putObj' W l o') (fun r e => by cases e; exact ⟨hB, o, hl, ho⟩)
theorem OwnN.alloc {β : Type} {B : Nat} {I : β → World → Prop} (h : OwnN B I) {s : β} {W : World} (o : Obj) (hs : I s W) : I s (W.alloc o) :=
  h s W _ none hs (World.grownBy_alloc W o none) (fun r e => by cases e)
theorem OwnN.below {β : Type} {B : Nat} {I : β → World → Prop} (h : OwnN B I) {s : β} {W W' : World} (hs : I s W) (hb : Below W.heap.size W W') : I s W' :=
  h s W W' none hs ⟨hb.os, hb.tape, hb.output, hb.size, fun j hj _ => hb.block j hj⟩ (fun r e => by cases e)
/-- What abides all that leaves the blocks below B as they are. -/
theorem ownN_below {β : Type} {B : Nat} {I : β → World → Prop} (hs : ∀ k W, I k W → B ≤ W.heap.size) (h : ∀ k W W', I k W → Below B W W' → I k W') : OwnN B I := fun k W W' row hi hg hr =>
  h k W W' hi ⟨hg.os, hg.tape, hg.output, hg.size, fun j hj => hg.block j (Nat.lt_of_lt_of_le hj (hs k W hi)) (fun e => by have := (hr j e.symm).1; omega)⟩

/-- How a round may be left. -/
def toPostN (B k : Nat) (I : Nat → World → Prop) (Ix : Code → World → Prop) (W : World) : Exit → Act → World → Prop
  | .normal, _, W' => KeepsN B W W' ∧ I (k + 1) W'
  | .ret, _, W' => KeepsN B W W' ∧ Ix .ret W'
  | .exit id, _, W' => KeepsN B W W' ∧ Ix (.exit id) W'
  | .goto t, _, W' => KeepsN B W W' ∧ Ix (.goto t) W'
  | _, _, _ => False

/-- An iterator that hands out the values xs, one by one, until a round says that it is enough. -/
def GivesN {α : Type} (F : Fence) (n : Nat) (P : Program) (g : Nat) (lb : Array Value) (encs : α → Array Value) (xs : List α) (Fx : Nat → World → Prop) : Prop :=
  ∀ (l : Nat) (J : Nat → World → Prop) (Z : Unit → World → Prop) (W : World), OwnN W.heap.size J → OwnN W.heap.size Z → (∀ k W, J k W → Fx k W) →
    (∀ k x W1, J k W1 → xs[k]? = some x → YieldAt F (n - 1) P l (encs x) W1 fun e W' => KeepsN W.heap.size W1 W' ∧ ((e = .returned (.bool true) ∧ J (k + 1) W') ∨ (e = .returned (.bool false) ∧ Z () W'))) →
    J 0 W → CallsIn F n P g (#[.func (.yield l) #[] #[]] ++ lb) W fun e W' => (∃ v, e = .returned v) ∧ (J xs.length W' ∨ Z () W')

theorem GivesN.inRound {α : Type} {F : Fence} {n : Nat} {P : Program} {g : Nat} {lb : Array Value} {encs : α → Array Value} {xs : List α} {Fx : Nat → World → Prop} (l : Nat) (h : GivesN F n P g lb encs xs Fx) : GivesN (F.inRound l) n P g lb encs xs Fx := h

theorem mine_loop (r : Loop) : Mine (.loop r) := .inl rfl

theorem wpIn_givesN {F : Fence} {n : Nat} {P : Program} {α : Type} {g : Operand} {ps : Array Tmp} {assign body : Code} {Q : Exit → Act → World → Prop} {a : Act} {w : World}
    (hro : F.round = none) (h1 : 1 ≤ n) {gf : Nat} {lb : Array Value} (hg : a.eval g = .func (.func gf) #[] lb) (hFg : F.fn gf) (eg : ∀ args w, (callFunc gf args).run P w = .ok (.enter gf args) w)
    {encs : α → Array Value} {xs : List α} {Fx : Nat → World → Prop} (hseq : GivesN F (n - 1) P gf lb encs xs Fx) (hps : ∀ x, (encs x).size = ps.size)
    (I : Nat → World → Prop) (Ix : Code → World → Prop) (hI : OwnN w.heap.size I) (hIx : OwnN w.heap.size Ix) (hF : ∀ k W, I k W → Fx k W) (h0 : I 0 w) (Ax : α → Act → World → Prop) (hAx : ∀ x a', OwnN w.heap.size (fun (_ : Unit) W => Ax x a' W))
    (hassign : ∀ (l k : Nat) (x : α) (W : World) (K : Act → World → Prop), I k W → xs[k]? = some x → (∀ a' W', KeepsN w.heap.size W W' → I k W' → Ax x a' W' → K a' W') →
      assign.wpIn (F.inRound l) (n - 1 - 1) P (Exit.then K (fun _ _ _ => False)) { tmps := (ps.zip (encs x)).foldl (fun t (p, v) => t.setIfInBounds p v) a.tmps, defers := [] } W)
    (hbody : ∀ (l k : Nat) (x : α) (a' : Act) (W : World), w.heap.size ≤ l → (∃ r, W.heap[l]? = some (.loop r)) → I k W → Ax x a' W → xs[k]? = some x → body.wpIn (F.inRound l) (n - 1 - 1) P (toPostN w.heap.size k I Ix W) a' W)
    (hdone : ∀ (D : Nat) (W : World), w.heap.size ≤ D → I xs.length W → W.heap[D]? = some (.deferred (some [])) → Q .normal { a with defers := { target := .collected D, args := #[] } :: a.defers } W)
    (hstop : ∀ (D : Nat) (c : Code) (W : World), w.heap.size ≤ D → Ix c W → W.heap[D]? = some (.deferred (some [])) → c.wpIn F n P Q { a with defers := { target := .collected D, args := #[] } :: a.defers } W) :
    (Code.rangeFunc g ps assign body).wpIn F n P Q a w := by
  refine wpIn_rangeFunc fun fn hfn => ?_
  rw [hro]
  let R : LoopState → Option Code → Loop := fun st pe => { state := st, pending := pe, fn, tmps := a.tmps, params := ps, assign, body, defers := w.heap.size }
  obtain ⟨W1, hW1⟩ : ∃ W1, (w.alloc (.deferred (some []))).alloc (.loop (R .ready none)) = W1 := ⟨_, rfl⟩
  have hs1 : W1.heap.size = w.heap.size + 2 := by rw [← hW1]; simp
  have hl1 : W1.heap[w.heap.size + 1]? = some (.loop (R .ready none)) := by
    have := World.alloc_heap_new (w.alloc (.deferred (some []))) (.loop (R .ready none))
    rw [World.size_alloc] at this
    rw [← hW1]; exact this
  have hd1 : W1.heap[w.heap.size]? = some (.deferred (some [])) := by
    rw [← hW1]; exact (Below.heap_alloc _ _ _ (by simp)).trans (World.alloc_heap_new w _)
  have hkeep : ∀ {A B : World} {row : Option Nat} {k : Nat} {o : Obj}, A.grownBy B row → (∀ r, row = some r → W1.heap.size ≤ r ∧ ∃ o : Obj, A.heap[r]? = some o ∧ Mine o) → k < W1.heap.size → A.heap[k]? = some o → B.heap[k]? = some o :=
    fun hg' hr hk ho => (hg'.block _ (Array.getElem?_eq_some_iff.1 ho).1 (fun e => by have := (hr _ e.symm).1; omega)).trans ho
  have hrow : ∀ {A : World} {row : Option Nat}, (∀ r, row = some r → W1.heap.size ≤ r ∧ ∃ o : Obj, A.heap[r]? = some o ∧ Mine o) → ∀ r, row = some r → w.heap.size ≤ r ∧ ∃ o : Obj, A.heap[r]? = some o ∧ Mine o :=
    fun hr r e => ⟨by have := (hr r e).1; omega, (hr r e).2⟩
  refine ⟨w.heap.size + 1, [{ target := .collected w.heap.size, args := #[] }], W1, { target := .fn (.func gf) lb, args := #[.func (.yield (w.heap.size + 1)) #[] #[]] }, W1, gf, #[.func (.yield (w.heap.size + 1)) #[] #[]] ++ lb, W1, ?_, ?_, ?_, ?_, fun _ => h1, ?_⟩
  · rw [← hW1]; exact run_enterLoop_outer _ _ _ _ _
  · simp only [resolve, hg]; simp [go_sem]
  · intro f' hf'; simp [Target.leads] at hf'; subst hf'; exact hFg
  · simp [invoke, go_sem, eg]
  · refine (hseq (w.heap.size + 1) (fun k W => I k W ∧ W.heap[w.heap.size + 1]? = some (.loop (R .ready none)) ∧ W.heap[w.heap.size]? = some (.deferred (some [])))
      (fun _ W => ∃ c, Ix c W ∧ W.heap[w.heap.size + 1]? = some (.loop (R .done (some c))) ∧ W.heap[w.heap.size]? = some (.deferred (some []))) W1 ?_ ?_ (fun k W h => hF k W h.1) ?_ ⟨?_, hl1, hd1⟩).mono ?_
    · rintro k A B row ⟨i1, i2, i3⟩ hg' hr
      exact ⟨hI k A B row i1 hg' (hrow hr), hkeep hg' hr (by omega) i2, hkeep hg' hr (by omega) i3⟩
    · rintro k A B row ⟨c, i1, i2, i3⟩ hg' hr
      exact ⟨c, hIx c A B row i1 hg' (hrow hr), hkeep hg' hr (by omega) i2, hkeep hg' hr (by omega) i3⟩
    · rintro k x V ⟨i1, i2, i3⟩ hx
      refine ⟨fn, _, assign, body, run_yield (P := P) (args := encs x) i2 (hps x), roundIn_of_wpIn hfn (hassign _ k x V _ i1 hx fun a' W ka ia ax => ?_)⟩
      replace i1 := ia
      replace i2 := ka.same _ _ (by omega) i2 (mine_loop _)
      replace i3 := ka.same _ _ (Nat.le_refl _) i3 (.inl rfl)
      refine ⟨_, run_beginRound i2 rfl, ?_⟩
      have hlt := (Array.getElem?_eq_some_iff.1 i2).1
      obtain ⟨Wb, hWb⟩ : ∃ Wb, Wb = W.putObj (w.heap.size + 1) (.loop { R .ready none with state := .busy }) := ⟨_, rfl⟩
      have b2 : Wb.heap[w.heap.size + 1]? = some (.loop { R .ready none with state := .busy }) := by rw [hWb]; exact World.putObj_heap_same hlt
      have b3 : Wb.heap[w.heap.size]? = some (.deferred (some [])) := by rw [hWb]; exact (World.putObj_heap_other (by omega)).trans i3
      have b1 : I k Wb := by rw [hWb]; exact hI.putObj _ i1 (by omega) i2 (mine_loop _)
      have kb : KeepsN W1.heap.size V Wb := by rw [hWb]; exact (ka.mono (by omega)).trans (KeepsN.of_put _ (by omega))
      have bx : Ax x a' Wb := by rw [hWb]; exact (hAx x a').putObj (s := ()) _ ax (by omega) i2 (mine_loop _)
      rw [← hWb]
      refine wpIn_mono (hbody _ k x a' Wb (by omega) ⟨_, b2⟩ b1 bx hx) ?_
      rintro e a3 W3 hp
      have fin : KeepsN w.heap.size Wb W3 → W3.heap[w.heap.size + 1]? = some (.loop { R .ready none with state := .busy }) ∧ W3.heap[w.heap.size]? = some (.deferred (some [])) ∧ ∀ o, KeepsN W1.heap.size V (W3.putObj (w.heap.size + 1) o) := fun k1 =>
        ⟨k1.same _ _ (by omega) b2 (mine_loop _), k1.same _ _ (Nat.le_refl _) b3 (.inl rfl), fun o => (kb.trans (k1.mono (by omega))).trans (KeepsN.of_put _ (by omega))⟩
      cases e with
      | normal =>
        obtain ⟨k1, k2⟩ := hp
        obtain ⟨c2, c3, c4⟩ := fin k1
        exact ⟨_, _, run_endRound (P := P) none c2, c4 _, .inl ⟨rfl, hI.putObj _ k2 (by omega) c2 (mine_loop _), World.putObj_heap_same (Array.getElem?_eq_some_iff.1 c2).1, (World.putObj_heap_other (by omega)).trans c3⟩⟩
      | ret =>
        obtain ⟨k1, k2⟩ := hp
        obtain ⟨c2, c3, c4⟩ := fin k1
        exact ⟨_, _, run_endRound (P := P) (some .ret) c2, c4 _, .inr ⟨rfl, .ret, hIx.putObj _ k2 (by omega) c2 (mine_loop _), World.putObj_heap_same (Array.getElem?_eq_some_iff.1 c2).1, (World.putObj_heap_other (by omega)).trans c3⟩⟩
      | exit id =>
        obtain ⟨k1, k2⟩ := hp
        obtain ⟨c2, c3, c4⟩ := fin k1
        exact ⟨_, _, run_endRound (P := P) (some (.exit id)) c2, c4 _, .inr ⟨rfl, .exit id, hIx.putObj _ k2 (by omega) c2 (mine_loop _), World.putObj_heap_same (Array.getElem?_eq_some_iff.1 c2).1, (World.putObj_heap_other (by omega)).trans c3⟩⟩
      | goto t =>
        obtain ⟨k1, k2⟩ := hp
        obtain ⟨c2, c3, c4⟩ := fin k1
        exact ⟨_, _, run_endRound (P := P) (some (.goto t)) c2, c4 _, .inr ⟨rfl, .goto t, hIx.putObj _ k2 (by omega) c2 (mine_loop _), World.putObj_heap_same (Array.getElem?_eq_some_iff.1 c2).1, (World.putObj_heap_other (by omega)).trans c3⟩⟩
      | panic ch => exact hp.elim
      | outgrown => exact hp.elim
    · rw [← hW1]; exact hI.alloc _ (hI.alloc _ h0)
    · rintro e W2 ⟨⟨v, rfl⟩, (⟨i1, i2, i3⟩ | ⟨c, i1, i2, i3⟩)⟩
      · exact ⟨none, _, run_endLoop (P := P) i2 (by simp [R]), hdone _ _ (Nat.le_refl _) (hI.putObj _ i1 (by omega) i2 (mine_loop _)) ((World.putObj_heap_other (by omega)).trans i3)⟩
      · exact ⟨some c, _, run_endLoop (P := P) i2 (by simp [R]), hstop _ c _ (Nat.le_refl _) (hIx.putObj _ i1 (by omega) i2 (mine_loop _)) ((World.putObj_heap_other (by omega)).trans i3)⟩

/-- The same within a round of the loop l0. -/
theorem wpIn_givesN_in {F : Fence} {n : Nat} {P : Program} {α : Type} {g : Operand} {ps : Array Tmp} {assign body : Code} {Q : Exit → Act → World → Prop} {a : Act} {w : World}
    {l0 : Nat} {r0 : Loop} (hro : F.round = some l0) (hl0 : w.heap[l0]? = some (.loop r0)) (h1 : 1 ≤ n) {gf : Nat} {lb : Array Value} (hg : a.eval g = .func (.func gf) #[] lb) (hFg : F.fn gf) (eg : ∀ args w, (callFunc gf args).run P w = .ok (.enter gf args) w)
    {encs : α → Array Value} {xs : List α} {Fx : Nat → World → Prop} (hseq : GivesN F (n - 1) P gf lb encs xs Fx) (hps : ∀ x, (encs x).size = ps.size)
    (I : Nat → World → Prop) (Ix : Code → World → Prop) (hI : OwnN w.heap.size I) (hIx : OwnN w.heap.size Ix) (hF : ∀ k W, I k W → Fx k W) (h0 : I 0 w) (Ax : α → Act → World → Prop) (hAx : ∀ x a', OwnN w.heap.size (fun (_ : Unit) W => Ax x a' W))
    (hassign : ∀ (l k : Nat) (x : α) (W : World) (K : Act → World → Prop), I k W → xs[k]? = some x → (∀ a' W', KeepsN w.heap.size W W' → I k W' → Ax x a' W' → K a' W') →
      assign.wpIn (F.inRound l) (n - 1 - 1) P (Exit.then K (fun _ _ _ => False)) { tmps := (ps.zip (encs x)).foldl (fun t (p, v) => t.setIfInBounds p v) a.tmps, defers := [] } W)
    (hbody : ∀ (l k : Nat) (x : α) (a' : Act) (W : World), w.heap.size ≤ l → (∃ r, W.heap[l]? = some (.loop r)) → I k W → Ax x a' W → xs[k]? = some x → body.wpIn (F.inRound l) (n - 1 - 1) P (toPostN w.heap.size k I Ix W) a' W)
    (hdone : ∀ (W : World), I xs.length W → Q .normal a W)
    (hstop : ∀ (c : Code) (W : World), Ix c W → c.wpIn F n P Q a W) :
    (Code.rangeFunc g ps assign body).wpIn F n P Q a w := by
  refine wpIn_rangeFunc fun fn hfn => ?_
  rw [hro]
  let R : LoopState → Option Code → Loop := fun st pe => { state := st, pending := pe, fn, tmps := a.tmps, params := ps, assign, body, defers := r0.defers }
  obtain ⟨W1, hW1⟩ : ∃ W1, w.alloc (.loop (R .ready none)) = W1 := ⟨_, rfl⟩
  have hs1 : W1.heap.size = w.heap.size + 1 := by rw [← hW1]; simp
  have hl1 : W1.heap[w.heap.size]? = some (.loop (R .ready none)) := by rw [← hW1]; exact World.alloc_heap_new w _
  have hkeep : ∀ {A B : World} {row : Option Nat} {k : Nat} {o : Obj}, A.grownBy B row → (∀ r, row = some r → W1.heap.size ≤ r ∧ ∃ o : Obj, A.heap[r]? = some o ∧ Mine o) → k < W1.heap.size → A.heap[k]? = some o → B.heap[k]? = some o :=
    fun hg' hr hk ho => (hg'.block _ (Array.getElem?_eq_some_iff.1 ho).1 (fun e => by have := (hr _ e.symm).1; omega)).trans ho
  have hrow : ∀ {A : World} {row : Option Nat}, (∀ r, row = some r → W1.heap.size ≤ r ∧ ∃ o : Obj, A.heap[r]? = some o ∧ Mine o) → ∀ r, row = some r → w.heap.size ≤ r ∧ ∃ o : Obj, A.heap[r]? = some o ∧ Mine o :=
    fun hr r e => ⟨by have := (hr r e).1; omega, (hr r e).2⟩
  refine ⟨w.heap.size, [], W1, { target := .fn (.func gf) lb, args := #[.func (.yield w.heap.size) #[] #[]] }, W1, gf, #[.func (.yield w.heap.size) #[] #[]] ++ lb, W1, ?_, ?_, ?_, ?_, fun _ => h1, ?_⟩
  · rw [← hW1]; exact run_enterLoop_inner hl0 _ _ _ _ _
  · simp only [resolve, hg]; simp [go_sem]
  · intro f' hf'; simp [Target.leads] at hf'; subst hf'; exact hFg
  · simp [invoke, go_sem, eg]
  · refine (hseq w.heap.size (fun k W => I k W ∧ W.heap[w.heap.size]? = some (.loop (R .ready none)))
      (fun _ W => ∃ c, Ix c W ∧ W.heap[w.heap.size]? = some (.loop (R .done (some c)))) W1 ?_ ?_ (fun k W h => hF k W h.1) ?_ ⟨?_, hl1⟩).mono ?_
    · rintro k A B row ⟨i1, i2⟩ hg' hr
      exact ⟨hI k A B row i1 hg' (hrow hr), hkeep hg' hr (by omega) i2⟩
    · rintro k A B row ⟨c, i1, i2⟩ hg' hr
      exact ⟨c, hIx c A B row i1 hg' (hrow hr), hkeep hg' hr (by omega) i2⟩
    · rintro k x V ⟨i1, i2⟩ hx
      refine ⟨fn, _, assign, body, run_yield (P := P) (args := encs x) i2 (hps x), roundIn_of_wpIn hfn (hassign _ k x V _ i1 hx fun a' W ka ia ax => ?_)⟩
      replace i1 := ia
      replace i2 := ka.same _ _ (Nat.le_refl _) i2 (mine_loop _)
      refine ⟨_, run_beginRound i2 rfl, ?_⟩
      have hlt := (Array.getElem?_eq_some_iff.1 i2).1
      obtain ⟨Wb, hWb⟩ : ∃ Wb, Wb = W.putObj w.heap.size (.loop { R .ready none with state := .busy }) := ⟨_, rfl⟩
      have b2 : Wb.heap[w.heap.size]? = some (.loop { R .ready none with state := .busy }) := by rw [hWb]; exact World.putObj_heap_same hlt
      have b1 : I k Wb := by rw [hWb]; exact hI.putObj _ i1 (by omega) i2 (mine_loop _)
      have kb : KeepsN W1.heap.size V Wb := by rw [hWb]; exact (ka.mono (by omega)).trans (KeepsN.of_put _ (by omega))
      have bx : Ax x a' Wb := by rw [hWb]; exact (hAx x a').putObj (s := ()) _ ax (by omega) i2 (mine_loop _)
      rw [← hWb]
      refine wpIn_mono (hbody _ k x a' Wb (by omega) ⟨_, b2⟩ b1 bx hx) ?_
      rintro e a3 W3 hp
      have fin : KeepsN w.heap.size Wb W3 → W3.heap[w.heap.size]? = some (.loop { R .ready none with state := .busy }) ∧ ∀ o, KeepsN W1.heap.size V (W3.putObj w.heap.size o) := fun k1 =>
        ⟨k1.same _ _ (by omega) b2 (mine_loop _), fun o => (kb.trans (k1.mono (by omega))).trans (KeepsN.of_put _ (by omega))⟩
      cases e with
      | normal =>
        obtain ⟨k1, k2⟩ := hp
        obtain ⟨c2, c4⟩ := fin k1
        exact ⟨_, _, run_endRound (P := P) none c2, c4 _, .inl ⟨rfl, hI.putObj _ k2 (by omega) c2 (mine_loop _), World.putObj_heap_same (Array.getElem?_eq_some_iff.1 c2).1⟩⟩
      | ret =>
        obtain ⟨k1, k2⟩ := hp
        obtain ⟨c2, c4⟩ := fin k1
        exact ⟨_, _, run_endRound (P := P) (some .ret) c2, c4 _, .inr ⟨rfl, .ret, hIx.putObj _ k2 (by omega) c2 (mine_loop _), World.putObj_heap_same (Array.getElem?_eq_some_iff.1 c2).1⟩⟩
      | exit id =>
        obtain ⟨k1, k2⟩ := hp
        obtain ⟨c2, c4⟩ := fin k1
        exact ⟨_, _, run_endRound (P := P) (some (.exit id)) c2, c4 _, .inr ⟨rfl, .exit id, hIx.putObj _ k2 (by omega) c2 (mine_loop _), World.putObj_heap_same (Array.getElem?_eq_some_iff.1 c2).1⟩⟩
      | goto t =>
        obtain ⟨k1, k2⟩ := hp
        obtain ⟨c2, c4⟩ := fin k1
        exact ⟨_, _, run_endRound (P := P) (some (.goto t)) c2, c4 _, .inr ⟨rfl, .goto t, hIx.putObj _ k2 (by omega) c2 (mine_loop _), World.putObj_heap_same (Array.getElem?_eq_some_iff.1 c2).1⟩⟩
      | panic ch => exact hp.elim
      | outgrown => exact hp.elim
    · rw [← hW1]; exact hI.alloc _ h0
    · rintro e W2 ⟨⟨v, rfl⟩, (⟨i1, i2⟩ | ⟨c, i1, i2⟩)⟩
      · exact ⟨none, _, run_endLoop (P := P) i2 (by simp [R]), hdone _ (hI.putObj _ i1 (by omega) i2 (mine_loop _))⟩
      · exact ⟨some c, _, run_endLoop (P := P) i2 (by simp [R]), hstop c _ (hIx.putObj _ i1 (by omega) i2 (mine_loop _))⟩
/-- The same with what the assignment leaves told by the caller's slots. -/
theorem wpIn_givesU {F : Fence} {n : Nat} {P : Program} {α β : Type} {g : Operand} {ps : Array Tmp} {assign body : Code} {Q : Exit → Act → World → Prop} {a : Act} {w : World}
    (hro : F.round = none) (h1 : 1 ≤ n) {gf : Nat} {lb : Array Value} (hg : a.eval g = .func (.func gf) #[] lb) (hFg : F.fn gf) (eg : ∀ args w, (callFunc gf args).run P w = .ok (.enter gf args) w)
    {encs : α → Array Value} {xs : List α} {Fx : Nat → World → Prop} (hseq : GivesN F (n - 1) P gf lb encs xs Fx) (hps : ∀ x, (encs x).size = ps.size)
    (I : Nat → World → Prop) (Ix : Code → World → Prop) (hI : OwnN w.heap.size I) (hIx : OwnN w.heap.size Ix) (hF : ∀ k W, I k W → Fx k W) (h0 : I 0 w) (up : α → β → Array Value → Array Value) (Ay : α → β → World → Prop) (hAy : ∀ x y, OwnN w.heap.size (fun (_ : Unit) W => Ay x y W))
    (hassign : ∀ (l k : Nat) (x : α) (W : World) (K : Act → World → Prop), I k W → xs[k]? = some x → (∀ y W', KeepsN w.heap.size W W' → I k W' → Ay x y W' → K { tmps := up x y a.tmps, defers := [] } W') →
      assign.wpIn (F.inRound l) (n - 1 - 1) P (Exit.then K (fun _ _ _ => False)) { tmps := (ps.zip (encs x)).foldl (fun t (p, v) => t.setIfInBounds p v) a.tmps, defers := [] } W)
    (hbody : ∀ (l k : Nat) (x : α) (y : β) (W : World), w.heap.size ≤ l → (∃ r, W.heap[l]? = some (.loop r)) → I k W → Ay x y W → xs[k]? = some x → body.wpIn (F.inRound l) (n - 1 - 1) P (toPostN w.heap.size k I Ix W) { tmps := up x y a.tmps, defers := [] } W)
    (hdone : ∀ (D : Nat) (W : World), w.heap.size ≤ D → I xs.length W → W.heap[D]? = some (.deferred (some [])) → Q .normal { a with defers := { target := .collected D, args := #[] } :: a.defers } W)
    (hstop : ∀ (D : Nat) (c : Code) (W : World), w.heap.size ≤ D → Ix c W → W.heap[D]? = some (.deferred (some [])) → c.wpIn F n P Q { a with defers := { target := .collected D, args := #[] } :: a.defers } W) :
    (Code.rangeFunc g ps assign body).wpIn F n P Q a w :=
  wpIn_givesN hro h1 hg hFg eg hseq hps I Ix hI hIx hF h0 (fun x a' W => ∃ y, a' = { tmps := up x y a.tmps, defers := [] } ∧ Ay x y W)
    (fun x a' _ A B row h hg' hr => by obtain ⟨y, h1, h2⟩ := h; exact ⟨y, h1, hAy x y () A B row h2 hg' hr⟩)
    (fun l k x W K hi hx hK => hassign l k x W K hi hx fun y W' h1 h2 h3 => hK _ W' h1 h2 ⟨y, rfl, h3⟩)
    (fun l k x a' W hl hr hi hax hx => by obtain ⟨y, rfl, h2⟩ := hax; exact hbody l k x y W hl hr hi h2 hx) hdone hstop

theorem wpIn_givesU_in {F : Fence} {n : Nat} {P : Program} {α β : Type} {g : Operand} {ps : Array Tmp} {assign body : Code} {Q : Exit → Act → World → Prop} {a : Act} {w : World}
    {l0 : Nat} {r0 : Loop} (hro : F.round = some l0) (hl0 : w.heap[l0]? = some (.loop r0)) (h1 : 1 ≤ n) {gf : Nat} {lb : Array Value} (hg : a.eval g = .func (.func gf) #[] lb) (hFg : F.fn gf) (eg : ∀ args w, (callFunc gf args).run P w = .ok (.enter gf args) w)
    {encs : α → Array Value} {xs : List α} {Fx : Nat → World → Prop} (hseq : GivesN F (n - 1) P gf lb encs xs Fx) (hps : ∀ x, (encs x).size = ps.size)
    (I : Nat → World → Prop) (Ix : Code → World → Prop) (hI : OwnN w.heap.size I) (hIx : OwnN w.heap.size Ix) (hF : ∀ k W, I k W → Fx k W) (h0 : I 0 w) (up : α → β → Array Value → Array Value) (Ay : α → β → World → Prop) (hAy : ∀ x y, OwnN w.heap.size (fun (_ : Unit) W => Ay x y W))
    (hassign : ∀ (l k : Nat) (x : α) (W : World) (K : Act → World → Prop), I k W → xs[k]? = some x → (∀ y W', KeepsN w.heap.size W W' → I k W' → Ay x y W' → K { tmps := up x y a.tmps, defers := [] } W') →
      assign.wpIn (F.inRound l) (n - 1 - 1) P (Exit.then K (fun _ _ _ => False)) { tmps := (ps.zip (encs x)).foldl (fun t (p, v) => t.setIfInBounds p v) a.tmps, defers := [] } W)
    (hbody : ∀ (l k : Nat) (x : α) (y : β) (W : World), w.heap.size ≤ l → (∃ r, W.heap[l]? = some (.loop r)) → I k W → Ay x y W → xs[k]? = some x → body.wpIn (F.inRound l) (n - 1 - 1) P (toPostN w.heap.size k I Ix W) { tmps := up x y a.tmps, defers := [] } W)
    (hdone : ∀ (W : World), I xs.length W → Q .normal a W)
    (hstop : ∀ (c : Code) (W : World), Ix c W → c.wpIn F n P Q a W) :
    (Code.rangeFunc g ps assign body).wpIn F n P Q a w :=
  wpIn_givesN_in hro hl0 h1 hg hFg eg hseq hps I Ix hI hIx hF h0 (fun x a' W => ∃ y, a' = { tmps := up x y a.tmps, defers := [] } ∧ Ay x y W)
    (fun x a' _ A B row h hg' hr => by obtain ⟨y, h1, h2⟩ := h; exact ⟨y, h1, hAy x y () A B row h2 hg' hr⟩)
    (fun l k x W K hi hx hK => hassign l k x W K hi hx fun y W' h1 h2 h3 => hK _ W' h1 h2 ⟨y, rfl, h3⟩)
    (fun l k x a' W hl hr hi hax hx => by obtain ⟨y, rfl, h2⟩ := hax; exact hbody l k x y W hl hr hi h2 hx) hdone hstop

theorem roundIn_any {m m' l2 : Nat} {P : Program} {l : Nat} {f : FuncId} {tmps : Array Value} {assign body : Code} {w : World} {R : Ending → World → Prop} (h : RoundIn Fence.wide m P l f tmps assign body w R) : RoundIn (Fence.wide.inRound l2) m' P l f tmps assign body w R :=
  ⟨h.1, fun c cs _ => h.2 c cs (room_wide _)⟩
end Go.Proofs.Ytmnafocmbcgdiac

/-
  trie.below: a node and all below it, rising.
-/
namespace Go.Proofs.Ytmnafocmbcgdiac
open Go.ChangeShapes Go.WideShapes Go.ChangeAt Go.RowKit Go.Shelf Tri N
attribute [local go_sem] Oper.semAt_some
set_option maxHeartbeats 4000000
set_option maxRecDepth 100000

/-- The nodes, a node ahead of those below it. -/
def pre : MT → List MT
  | .nil => []
  | .node b c k u l r => .node b c k u l r :: (pre l ++ pre r)

def todo (S : List MT) : List MT := S.reverse.flatMap pre
def wt (q : MT) : Nat := 2 * nodes q.tr + 1
def tot (S : List MT) : Nat := (S.map wt).sum

theorem tot_len (S : List MT) : S.length ≤ tot S := by
  induction S with
  | nil => exact Nat.le_refl _
  | cons q S ih => simp only [tot, List.map_cons, List.sum_cons, List.length_cons, wt] at ih ⊢; omega
theorem tot_snoc (S : List MT) (q : MT) : tot (S ++ [q]) = tot S + wt q := by simp [tot]
theorem todo_snoc (S : List MT) (q : MT) : todo (S ++ [q]) = pre q ++ todo S := by simp [todo]

structure BelowAt (X : Nat → Prop) (m : MT) (B : Nat) (J : Nat → World → Prop) (gk : Nat) (v : Value) (wr : World) (S : List MT) (k : Nat) : Prop where
  row : wr.ownsRow B 51 1 v S.length (S.map MT.ptr)
  gh : gk = tot S
  rest : (pre m).drop k = todo S
  le : k ≤ (pre m).length
  sub : ∀ q ∈ S, ∀ W', Lies W' X m → Lies W' X q
  inv : J k wr
  size : B ≤ wr.heap.size
  few : tot S ≤ 2 * nodes m.tr + 1

theorem idx_ns {n cap g m : Nat} {i : Int} (hi : i = (m : Int)) (hm : m < n) (u : World) : (Instr.indexAt 94 (.slice (some ⟨g, 0, none⟩) n cap) (.int .i64 i)).run Try.prog u = .ok (.pointer (some ⟨g, m, none⟩)) u := by
  subst hi
  have hu : Try.prog.underlying 94 = some (.slice 51) := by kernel_rfl
  have hsz : (sizeOf 51).run Try.prog u = .ok 1 u := by kernel_rfl
  simp [Instr.indexAt, run_underlying hu, asIntOf, go_sem, hsz, Result.andThen]
  omega

theorem cut_ns {n cap g m : Nat} {i : Int} (hi : i = (m : Int)) (hm : m ≤ n) (hc : n ≤ cap) (u : World) : (Instr.sliceAt 94 (.slice (some ⟨g, 0, none⟩) n cap) none (some (.int .i64 i)) none).run Try.prog u = .ok (.slice (some ⟨g, 0, none⟩) m cap) u := by
  subst hi
  have hu : Try.prog.underlying 94 = some (.slice (Try.prog.elem 94)) := by kernel_rfl
  have hsz : (sizeOf (Try.prog.elem 94)).run Try.prog u = .ok 1 u := by kernel_rfl
  rw [run_sliceAt_slice (h := hu), run_slice_h (ht := hu) (h0 := by omega) (h2 := by omega), hsz]
  simp [Result.andThen, sliced, Addr.add]

theorem infoN : (Try.prog.info? 51).map (fun i => (i.zero, i.size, i.bytes)) = some (some (.pointer none), 1, 8) := by kernel_rfl

theorem fill_two (rp lp : Option Addr) : Instr.fill (fun i => some (i * 1, 1)) (Array.map (fun x => (Value.pointer none).cells[x % (Value.pointer none).cells.size]!) (Array.range (2 * 1))) [(0, Value.pointer rp), (1, Value.pointer lp)] = some #[Value.pointer rp, Value.pointer lp] := by
  first
  | kernel_rfl
  | simp [Instr.fill, Value.cells, Array.range]
  | (unfold Instr.fill; simp [Value.cells, Array.range])

theorem ptr_one (q : MT) : q.ptr.oneCell' = true := by cases q <;> rfl

/-- What region 6 reads and makes. -/
def FB (v lp rp : Value) (b B : Nat) (i : Nat) (x : Value) (u : World) : Prop :=
  match i with
  | 0 => x = v
  | 1 => x = .pointer (some ⟨b, 0, none⟩)
  | 2 => x = .pointer (some ⟨b, 0, none⟩)
  | 3 => x = .pointer (some ⟨b, 3, none⟩)
  | 4 => x = .pointer (some ⟨b, 4, none⟩)
  | 5 => x = rp
  | 6 => x = .pointer (some ⟨b, 0, none⟩)
  | 7 => x = .pointer (some ⟨b, 0, none⟩)
  | 8 => x = .pointer (some ⟨b, 3, none⟩)
  | 9 => x = .pointer (some ⟨b, 3, none⟩)
  | 10 => x = lp
  | _ => ∃ g, x = .slice (some ⟨g, 0, none⟩) 2 2 ∧ B ≤ g ∧ u.heap[g]? = some (.cells #[rp, lp] 51)

theorem FB.keeps (v lp rp : Value) (b B : Nat) : ∀ (i : Nat) (x : Value) (w w' : World), FB v lp rp b B i x w → Below w.heap.size w w' → FB v lp rp b B i x w' := fun i x w w' h hb => by
  match i with
  | 0 | 1 | 2 | 3 | 4 | 5 | 6 | 7 | 8 | 9 | 10 => exact h
  | n + 11 => obtain ⟨g, h1, h2, h3⟩ := h; exact ⟨g, h1, h2, below_keeps hb h3 (Array.getElem?_eq_some_iff.1 h3).1⟩

theorem below_gives (n : Nat) (hn : 2 ≤ n) (X : Nat → Prop) (tbx : Nat) (m : MT) (hm : nodes m.tr ≤ 10000000000) :
    GivesN Fence.wide n Try.prog 52 #[.pointer (some ⟨tbx, 0, none⟩)] (fun q : MT => #[q.ptr]) (pre m) (fun k W => Lies W X m ∧ (k = 0 → W.heap[tbx]? = some (.cells #[m.ptr] 51))) := by
  intro l J Z W hJ hZ hJF hY h0
  obtain ⟨mp, hmp⟩ := ptr_is m
  have hF0 := hJF _ _ h0
  have t0 : W.cell? ⟨tbx, 0, none⟩ = some (.pointer mp) := by rw [← hmp, cell_of_row _ _ _ _ _ _ (hF0.2 rfl)]; rfl
  obtain ⟨W1, HW1⟩ : ∃ W1, Hid (W1 = W.alloc (.cells #[.pointer mp] 51)) := ⟨_, rfl⟩
  have HREL : Hid (∃ S k, BelowAt X m W.heap.size J (2 * nodes m.tr + 1) (.slice (some ⟨W.heap.size, 0, none⟩) 1 1) W1 S k) := by
    refine ⟨[m], 0, ⟨rfl, .inr ⟨W.heap.size, 1, #[.pointer mp], rfl, Nat.le_refl _, ?_, Nat.le_refl _, by unfold maxLen; omega, rfl, by rw [← hmp]; rfl⟩⟩, by simp [tot, wt], by simp [todo], Nat.zero_le _, fun q hq W' h => by simp at hq; subst hq; exact h, ?_, ?_, by simp [tot, wt]⟩
    · rw [HW1.out]; exact heap_alloc_new W _
    · rw [HW1.out]; exact hJ.alloc _ h0
    · rw [HW1.out]; simp
  refine callsIn_of_wp Try.func52 rfl trivial ?_ rfl
  refine wpIn_wide.2 ?_
  simp only [Try.ntmps52, List.size_toArray, List.length_cons, List.length_nil, Nat.reduceAdd, Nat.reduceSub, Array.replicate_succ, Array.replicate_zero, List.push_toArray, List.append_toArray, List.nil_append, List.cons_append]
  have HJ := hid hJ
  have HZ := hid hZ
  have HJF := hid hJF
  have HY := hid hY
  have HM := hid hm
  clear hJ hZ hJF hY h0 hmp hF0 hm
  obtain ⟨i0, HI0⟩ : ∃ i0, Hid (Try.prog.info? 51 = some i0 ∧ i0.zero = some (.pointer none) ∧ i0.size = 1 ∧ i0.bytes = 8) := by
    have h := infoN
    cases hq : Try.prog.info? 51 with
    | none => rw [hq] at h; cases h
    | some i => rw [hq] at h; simp at h; exact ⟨i, rfl, h.1, h.2.1, h.2.2⟩
  go_upto_region 1 with fail
  rw [← HW1.out]
  clear t0
  obtain ⟨N0, HN0⟩ : ∃ N0, Hid (N0 = 2 * nodes m.tr + 1) := ⟨_, rfl⟩
  rw [← HN0.out] at HREL
  go_loopg [3] N0 (fun gk v wr => ∃ vv, vv = v ∧ Hid (∃ S k, BelowAt X m W.heap.size J gk vv wr S k))
  case atStart => exact ⟨_, rfl, HREL⟩
  case round =>
    obtain ⟨vv, hvv, hrel⟩ := hrel
    subst hvv
    obtain ⟨S, k, hS⟩ := hrel.out
    clear hrel HREL
    rcases List.eq_nil_or_concat S with hnil | ⟨S0, q, hcon⟩
    · subst hnil
      obtain ⟨ao, cap, hv⟩ : ∃ ao cap, vv = .slice ao 0 cap := by
        rcases hS.row.2 with ⟨hv, _⟩ | ⟨g, cap, cur, hv, _⟩
        · exact ⟨_, _, hv⟩
        · exact ⟨_, _, hv⟩
      subst hv
      have HJE : Hid (J (pre m).length wr) := by
        have h1 := hS.rest
        have h2 := hS.le
        rw [show todo [] = [] from rfl, List.drop_eq_nil_iff] at h1
        have : k = (pre m).length := by omega
        rw [← this]; exact hS.inv
      clear hS
      go_wp2_with fail
      go_end0
      exact ⟨⟨_, rfl⟩, .inl HJE.out⟩
    · rw [List.concat_eq_append] at hcon
      subst hcon
      obtain ⟨g, cap, cur, hv, hg1, hg2, hg3, hg4, hg5, hg6⟩ : ∃ g cap cur, vv = .slice (some ⟨g, 0, none⟩) (S0 ++ [q]).length cap ∧ W.heap.size ≤ g ∧ wr.heap[g]? = some (.cells cur 51 (0, 0)) ∧ (S0 ++ [q]).length ≤ cap ∧ cap ≤ maxLen ∧ cur.size = cap * 1 ∧ cur.toList.take ((S0 ++ [q]).length * 1) = (S0 ++ [q]).map MT.ptr := by
        rcases hS.row.2 with ⟨_, hz⟩ | h
        · simp at hz
        · exact h
      obtain ⟨nl, HNL⟩ : ∃ nl, Hid (nl = (S0 ++ [q]).length) := ⟨_, rfl⟩
      obtain ⟨ns, HNS⟩ : ∃ ns, Hid (ns = S0.length) := ⟨_, rfl⟩
      have HL1 : Hid (nl = ns + 1) := by unfold Hid; rw [HNL.out, HNS.out]; simp
      rw [← HNL.out] at hv hg3 hg6
      subst hv
      have hfew : nl ≤ 20000000001 := by
        have h1 := tot_len (S0 ++ [q])
        have h2 := hS.few
        have h3 := HM.out
        rw [← HNL.out] at h1
        omega
      have hb0 : (0 : Int) < (nl : Int) := by have := HL1.out; omega
      have hcq : cur[ns]? = some q.ptr := by
        have h1 := congrArg (fun L => L[ns]?) hg6
        simp only [List.getElem?_take, List.getElem?_map] at h1
        rw [if_pos (by have := HL1.out; omega), HNS.out] at h1
        rw [HNS.out]
        simpa using h1
      have hix : ∀ u : World, (Instr.indexAt 94 (.slice (some ⟨g, 0, none⟩) nl cap) (.int .i64 ((nl : Int) - 1))).run Try.prog u = .ok (.pointer (some ⟨g, ns, none⟩)) u := fun u => idx_ns (by have := HL1.out; omega) (by have := HL1.out; omega) u
      have hcut : ∀ u : World, (Instr.sliceAt 94 (.slice (some ⟨g, 0, none⟩) nl cap) none (some (.int .i64 ((nl : Int) - 1))) none).run Try.prog u = .ok (.slice (some ⟨g, 0, none⟩) ns cap) u := fun u => cut_ns (by have := HL1.out; omega) (by have := HL1.out; omega) hg3 u
      obtain ⟨qp, hqp⟩ := ptr_is q
      rw [hqp] at hcq
      have hcell : wr.cell? ⟨g, ns, none⟩ = some (.pointer qp) := by rw [cell_of_row _ _ _ _ _ _ hg2]; exact hcq
      have hrow0 : wr.ownsRow W.heap.size 51 1 (.slice (some ⟨g, 0, none⟩) ns cap) S0.length (S0.map MT.ptr) := by
        refine ⟨by simp, .inr ⟨g, cap, cur, by rw [HNS.out], hg1, hg2, by have := HL1.out; have := HNS.out; omega, hg4, hg5, ?_⟩⟩
        have h1 := congrArg (fun L => L.take S0.length) hg6
        simp only [List.take_take, List.map_append] at h1
        rw [List.take_left' (by simp)] at h1
        rw [Nat.mul_one, ← h1]
        congr 1
        have := HL1.out
        have := HNS.out
        omega
      have HROW0 := hid hrow0
      have HQP := hid hqp
      have HS := hid hS
      clear hrow0 hS hg1 hg2 hg3 hg4 hg5 hg6 hcq
      cases q with
      | nil =>
        obtain rfl : qp = none := by simpa [MT.ptr] using hqp.symm
        have HNX : Hid (BelowAt X m W.heap.size J (gk - 1) (.slice (some ⟨g, 0, none⟩) ns cap) wr S0 k) := by
          have h := HS.out
          have ht := tot_snoc S0 .nil
          have hw : wt .nil = 1 := rfl
          refine ⟨HROW0.out, ?_, ?_, h.le, fun q hq => h.sub q (List.mem_append_left _ hq), h.inv, h.size, ?_⟩
          · have := h.gh; omega
          · rw [h.rest, todo_snoc]; rfl
          · have := h.few; omega
        have HPOS : Hid (gk - 1 < gk) := by
          have h1 := HS.out.gh
          have ht := tot_snoc S0 .nil
          have hw : wt .nil = 1 := rfl
          unfold Hid
          omega
        clear hqp HROW0 HS HY HJF HJ HZ
        go_wp2_with fail
        go_roundg (gk - 1)
        case measure => exact HPOS.out
        case rel => exact ⟨_, rfl, S0, k, HNX.out⟩
      | node b c kk u lt rt =>
        obtain rfl : qp = some ⟨b, 0, none⟩ := by simpa [MT.ptr] using hqp.symm
        have HAT : Hid ((pre m)[k]? = some (.node b c kk u lt rt)) := by
          have h1 := congrArg (fun L => L[0]?) HS.out.rest
          rw [todo_snoc] at h1
          unfold Hid
          simpa [pre] using h1
        have hJt := HS.out.inv
        obtain ⟨fn, tmps, assign, body, hy, hR⟩ := HY.out _ _ wr hJt HAT.out
        simp only [MT.ptr] at hy
        clear hqp
        go_upto_region 5 with fail
        refine (wpIn_wide (n := n)).1 ?_
        gi_wp2
        refine ⟨fun _ => by omega, hR.mono ?_⟩
        rintro _ W3 ⟨hK, (⟨rfl, hJ3⟩ | ⟨rfl, hZ3⟩)⟩
        case inr =>
          have HZ3 := hid hZ3
          clear hZ3 hy hR hJt HY HJF hK
          gi_wp2
          go_wp2_with fail
          exact bodyPost_ret (v := .tuple #[]) (by simp [results, Try.results52]) rfl ⟨⟨_, rfl⟩, .inr HZ3.out⟩
        have hrow3 : W3.ownsRow W.heap.size 51 1 (.slice (some ⟨g, 0, none⟩) ns cap) S0.length (S0.map MT.ptr) := by
          refine ⟨HROW0.out.1, ?_⟩
          rcases HROW0.out.2 with h | ⟨g', cap', cur', hv, hb', hg', hrest⟩
          · exact .inl h
          · exact .inr ⟨g', cap', cur', hv, hb', hK.same _ _ hb' hg' (.inr (.inl ⟨_, rfl⟩)), hrest⟩
        have hF3 := HJF.out _ _ hJ3
        obtain ⟨_, hnode, _, _, _⟩ := HS.out.sub _ (List.mem_append_right _ (List.mem_singleton.2 rfl)) W3 hF3.1
        obtain ⟨lp, hlp⟩ := ptr_is lt
        obtain ⟨rp, hrp⟩ := ptr_is rt
        have hsz3 : W.heap.size ≤ W3.heap.size := Nat.le_trans HS.out.size hK.size
        have HNODE := hid hnode
        have HROW3 := hid hrow3
        have HJ3 := hid hJ3
        have HLP := hid hlp
        have HRP := hid hrp
        have HSZ3 := hid hsz3
        have HLT3 : Hid (b < W3.heap.size) := (Array.getElem?_eq_some_iff.1 hnode).1
        clear hy hR hJt HY HJF hK hJ3 hF3 hnode hrow3 hlp hrp hsz3 HROW0 hcell hix hcut
        gi_wp2
        go_upto_region 6 with fail
        refine wp_region_mono' 12 (fun i => 27 + i) (FB (.slice (some ⟨g, 0, none⟩) ns cap) (.pointer lp) (.pointer rp) b W.heap.size) (by kernel_rfl) (by kernel_rfl) (FB.keeps _ _ _ _ _) ?_ ?_
        · simp only [List.take_succ_cons, List.take_zero, N.stepsOk]
          refine ⟨?_, ?_, ?_, ?_, ?_, ?_, ?_, ?_, ?_, ?_, ?_, ?_, trivial⟩
          · intro a u vs hb hold hdep
            exact wp_val (ex_move (.tmp 3) _ rfl (hold 3 (fun j hj => low (by decide)))) ⟨_, rfl, rfl, hb, Below.refl _ _⟩
          · intro a u vs hb hold hdep
            exact wp_val (ex_move (.tmp 4) _ rfl (hold 4 (fun j hj => low (by decide)))) ⟨_, rfl, rfl, hb, Below.refl _ _⟩
          · intro a u vs hb hold hdep
            have h0 := hdep ⟨1, .data⟩ (by simp) rfl (by decide)
            exact wp_val (ex_nil ⟨b, 0, none⟩ (.tmp 28) rfl (h0.1.trans h0.2)) ⟨_, rfl, rfl, hb, Below.refl _ _⟩
          · intro a u vs hb hold hdep
            have h0 := hdep ⟨2, .data⟩ (by simp) rfl (by decide)
            exact wp_val (ex_field _ ⟨b, 0, none⟩ (.tmp 29) 2 _ rfl (h0.1.trans h0.2) (fld_nd u).2.2) ⟨_, rfl, rfl, hb, Below.refl _ _⟩
          · intro a u vs hb hold hdep
            have h0 := hdep ⟨3, .data⟩ (by simp) rfl (by decide)
            exact wp_val (ex_index _ (.tmp 30) (.const (.int .i64 1)) _ _ _ rfl (h0.1.trans h0.2) rfl (idx_two (g := b) (o := 3) (i := 1) (by omega) u)) ⟨_, rfl, rfl, hb, Below.refl _ _⟩
          · intro a u vs hb hold hdep
            have h0 := hdep ⟨4, .data⟩ (by simp) rfl (by decide)
            have hr := below_keeps hb HNODE.out HLT3.out
            exact wp_val (ex_load _ ⟨b, 4, none⟩ (.tmp 31) _ rfl (h0.1.trans h0.2) (load_nd (by rw [cell_of_row _ _ _ _ _ _ hr, ← HRP.out]; rfl))) ⟨_, rfl, rfl, hb, Below.refl _ _⟩
          · intro a u vs hb hold hdep
            exact wp_val (ex_move (.tmp 4) _ rfl (hold 4 (fun j hj => low (by decide)))) ⟨_, rfl, rfl, hb, Below.refl _ _⟩
          · intro a u vs hb hold hdep
            have h0 := hdep ⟨6, .data⟩ (by simp) rfl (by decide)
            exact wp_val (ex_nil ⟨b, 0, none⟩ (.tmp 33) rfl (h0.1.trans h0.2)) ⟨_, rfl, rfl, hb, Below.refl _ _⟩
          · intro a u vs hb hold hdep
            have h0 := hdep ⟨7, .data⟩ (by simp) rfl (by decide)
            exact wp_val (ex_field _ ⟨b, 0, none⟩ (.tmp 34) 2 _ rfl (h0.1.trans h0.2) (fld_nd u).2.2) ⟨_, rfl, rfl, hb, Below.refl _ _⟩
          · intro a u vs hb hold hdep
            have h0 := hdep ⟨8, .data⟩ (by simp) rfl (by decide)
            exact wp_val (ex_index _ (.tmp 35) (.const (.int .i64 0)) _ _ _ rfl (h0.1.trans h0.2) rfl (idx_two (g := b) (o := 3) (i := 0) (by omega) u)) ⟨_, rfl, rfl, hb, Below.refl _ _⟩
          · intro a u vs hb hold hdep
            have h0 := hdep ⟨9, .data⟩ (by simp) rfl (by decide)
            have hr := below_keeps hb HNODE.out HLT3.out
            exact wp_val (ex_load _ ⟨b, 3, none⟩ (.tmp 36) _ rfl (h0.1.trans h0.2) (load_nd (by rw [cell_of_row _ _ _ _ _ _ hr, ← HLP.out]; rfl))) ⟨_, rfl, rfl, hb, Below.refl _ _⟩
          · intro a u vs hb hold hdep
            have h5 := hdep ⟨5, .data⟩ (by simp) rfl (by decide)
            have h10 := hdep ⟨10, .data⟩ (by simp) rfl (by decide)
            have e5 : a.eval (.tmp 32) = .pointer rp := h5.1.trans h5.2
            have e10 : a.eval (.tmp 37) = .pointer lp := h10.1.trans h10.2
            have hb' : Below u.heap.size u (u.alloc (.cells #[.pointer rp, .pointer lp] 51)) := (Below.refl _ _).alloc (Nat.le_refl _) _
            refine wp_buildSlice 94 51 2 #[(0, .tmp 32), (1, .tmp 37)] rfl #[.pointer rp, .pointer lp] i0 (.pointer none) (by kernel_rfl) HI0.out.1 HI0.out.2.1 (by rw [HI0.out.2.2.1]; decide) (by rw [HI0.out.2.2.1]; decide) ?_ ⟨_, rfl, ⟨_, rfl, Nat.le_trans HSZ3.out hb.size, heap_alloc_new u _⟩, hb.trans (hb'.mono hb.size), hb'⟩
            rw [HI0.out.2.2.1]
            simp only [List.map_toArray, List.map_cons, List.map_nil, e5, e10]
            exact fill_two rp lp
        intro vs W4 hb4 hF
        have e0 : vs 0 = .slice (some ⟨g, 0, none⟩) ns cap := hF 0 (by decide)
        obtain ⟨g4, e11, hg4, r4⟩ := hF 11 (by decide)
        clear hF
        simp only [List.drop_succ_cons, List.drop_zero, puts, List.range, List.range.loop, List.foldr, Nat.reduceAdd, if_true, e0, e11, Act.put, List.setIfInBounds_toArray, List.set_cons_zero, List.set_cons_succ]
        clear e0 e11
        generalize vs 1 = z1
        generalize vs 2 = z2
        generalize vs 3 = z3
        generalize vs 4 = z4
        generalize vs 5 = z5
        generalize vs 6 = z6
        generalize vs 7 = z7
        generalize vs 8 = z8
        generalize vs 9 = z9
        generalize vs 10 = z10
        obtain ⟨hi0, hi1, hi2, hi3⟩ := HI0.out
        have HI := hid hi0
        have hrow4 := owns_below HROW3.out hb4
        have hJ4 := HJ.out.below HJ3.out hb4
        have HROW4 := hid hrow4
        have HJ4 := hid hJ4
        have HB4 : Hid (W.heap.size ≤ W4.heap.size) := Nat.le_trans HSZ3.out hb4.size
        have R4 := hid r4
        clear hi0 hrow4 hJ4 r4
        go_wp2_with (at_builtin; refine wpList_append_own _ rfl _ _ 94 rfl W.heap.size 51 i0 (.pointer none) 1 8 (by kernel_rfl) HI.out hi1 hi2 hi3 rfl (by decide) _ _ _ rfl HROW4.out ⟨g4, 0, none⟩ 2 2 [.pointer rp, .pointer lp] rfl rfl ?bb1 ?bb2 ?bb3 ?bb4 ?bb5 ?_)
        case bb1 =>
          intro j u hu
          rcases j with _ | _ | j
          · rw [show (⟨g4, 0, none⟩ : Addr).add 0 = ⟨g4, 0, none⟩ by simp [Addr.add], cell_of_row _ _ _ _ _ _ R4.out]
            exact hu
          · rw [show (⟨g4, 0, none⟩ : Addr).add (0 + 1) = ⟨g4, 1, none⟩ by simp [Addr.add], cell_of_row _ _ _ _ _ _ R4.out]
            exact hu
          · simp at hu
        case bb2 => intro u hu; simp at hu; rcases hu with rfl | rfl <;> rfl
        case bb3 => have := HNS.out; have := HL1.out; unfold maxLen; omega
        case bb4 => have := HNS.out; have := HL1.out; omega
        case bb5 => exact HB4.out
        intro v5 W5 hown5 hgrow _
        have HNX : Hid (BelowAt X m W.heap.size J (gk - 1) v5 W5 (S0 ++ [rt] ++ [lt]) (k + 1)) := by
          have h := HS.out
          have ht := tot_snoc S0 (.node b c kk u lt rt)
          have ht1 := tot_snoc S0 rt
          have ht2 := tot_snoc (S0 ++ [rt]) lt
          have hw : wt (.node b c kk u lt rt) = wt lt + wt rt + 1 := by simp [wt, MT.tr, nodes]; omega
          have hk : k < (pre m).length := (List.getElem?_eq_some_iff.1 HAT.out).1
          refine ⟨?_, ?_, ?_, hk, fun q hq W' hW' => ?_, ?_, Nat.le_trans HB4.out hgrow.size, ?_⟩
          · have e : (S0 ++ [rt] ++ [lt]).map MT.ptr = S0.map MT.ptr ++ [.pointer rp, .pointer lp] := by simp [← HRP.out, ← HLP.out]
            rw [e]
            simpa using hown5
          · have := h.gh; omega
          · rw [← List.drop_drop, h.rest, todo_snoc, todo_snoc, todo_snoc]; simp [pre]
          · have hq' : q ∈ S0 ∨ q = rt ∨ q = lt := by simpa [or_assoc] using hq
            rcases hq' with hq | rfl | rfl
            · exact h.sub q (List.mem_append_left _ hq) W' hW'
            · exact (h.sub _ (List.mem_append_right _ (List.mem_singleton.2 rfl)) W' hW').2.2.2.2
            · exact (h.sub _ (List.mem_append_right _ (List.mem_singleton.2 rfl)) W' hW').2.2.2.1
          · refine HJ.out _ _ _ _ HJ4.out hgrow fun r e => ?_
            rcases HROW4.out.2 with ⟨hv, _⟩ | ⟨g', cap', cur', hv, hb', hg', _⟩
            · cases hv
            · simp at hv
              obtain ⟨rfl, _⟩ := hv
              obtain rfl : g = r := by simpa [Value.ownBlock] using e
              exact ⟨hb', _, hg', .inr (.inl ⟨_, rfl⟩)⟩
          · have := h.few; omega
        have HPOS : Hid (gk - 1 < gk) := by
          have h1 := HS.out.gh
          have ht := tot_snoc S0 (.node b c kk u lt rt)
          have hw : wt (.node b c kk u lt rt) = wt lt + wt rt + 1 := by simp [wt, MT.tr, nodes]; omega
          unfold Hid
          omega
        clear hown5 hgrow hb4
        go_wp2_with fail
        go_roundg (gk - 1)
        case measure => exact HPOS.out
        case rel => exact ⟨_, rfl, _, _, HNX.out⟩
end Go.Proofs.Ytmnafocmbcgdiac

/-
  What lies inside a prefix; trie.highest.
-/
namespace Go.Proofs.Ytmnafocmbcgdiac
open Go.ChangeShapes Go.WideShapes Go.ChangeAt Go.RowKit Go.Shelf Tri N
set_option maxHeartbeats 4000000
set_option maxRecDepth 100000

def inP (p : K) (e : K × Int) : Bool := decide (p.n ≤ e.1.n) && hasK p e.1.x

def MT.ent : MT → Option (K × Int)
  | .node _ _ k (some v) _ _ => some (k, v)
  | _ => none

theorem pre_ents (m : MT) : (pre m).filterMap MT.ent = ents m.tr := by
  induction m with
  | nil => rfl
  | node b c k u l r il ir =>
    rw [pre, MT.tr, ents]
    cases u with
    | none => rw [List.filterMap_cons_none rfl, List.filterMap_append, il, ir]; rfl
    | some v => simp only [List.filterMap_cons, MT.ent, List.filterMap_append, il, ir]; rfl

def hiT : MT → K → MT
  | .nil, _ => .nil
  | .node b c k u l r, p => if k.n < p.n then (if side p.x k.n = 0 then hiT l p else hiT r p) else if hasK p k.x = true then .node b c k u l r else .nil

theorem inP_ins {p : K} {e : K × Int} (hp : p.Ok) (he : e.1.Ok) : inP p e = true ↔ Ins e.1 p := by
  unfold inP hasK
  simp only [Bool.and_eq_true, decide_eq_true_eq]
  constructor
  · rintro ⟨h1, h2, h3⟩
    rcases nest he hp h1 with h | h | h
    · exact h
    · have := e.1.s_pos; omega
    · omega
  · intro h
    have := e.1.s_pos
    have h1 := h.1
    have h2 := h.2
    exact ⟨ins_len he hp h, h1, by omega⟩

theorem filter_none {L : List (K × Int)} {p : K} (h : ∀ e ∈ L, inP p e ≠ true) : L.filter (inP p) = [] := List.filter_eq_nil_iff.2 h
theorem filter_all {L : List (K × Int)} {p : K} (h : ∀ e ∈ L, inP p e = true) : L.filter (inP p) = L := List.filter_eq_self.2 h

theorem hiT_ents {lo hi : Nat} {p : K} (hp : p.Ok) : ∀ (m : MT) (_ : WF lo hi m.tr), ents (hiT m p).tr = (ents m.tr).filter (inP p) := by
  intro m
  induction m generalizing lo hi with
  | nil => intro _; rfl
  | node b c k u l r il ir =>
    intro hW
    have hW0 : WF k.x (k.x + k.s) (.node k u l.tr r.tr) := ⟨hW.1, Nat.le_refl _, Nat.le_refl _, hW.2.2.2⟩
    obtain ⟨ok, _, _, hl, hr, hne⟩ := hW
    have hall := ents_in hW0
    have h2 := h2_le k
    have far : (k.x + k.s ≤ p.x ∨ p.x + p.s ≤ k.x) → ∀ e ∈ ents (Tr.node k u l.tr r.tr), inP p e ≠ true := fun h e he hi => by
      have h1 := hall e he
      have h3 := (inP_ins hp h1.1).1 hi
      have h4 := h3.1
      have h5 := h3.2
      have := e.1.s_pos
      omega
    rw [hiT]
    by_cases hk : k.n < p.n
    · rw [if_pos hk]
      have hown : (own k u).filter (inP p) = [] := by
        refine filter_none fun e he hi => ?_
        rw [mem_own] at he
        unfold inP at hi
        rw [he.1] at hi
        simp at hi
        omega
      rw [MT.tr, ents, List.filter_append, List.filter_append, hown, List.nil_append]
      rcases nest hp ok (by omega) with hin | h | h
      · have hpk := p.s_pos
        have h32 : k.n < 32 := by have := hp.1; omega
        have sd := side_of ok h32 (a := p.x) hin.1 (by have := hin.2; omega)
        have hlf := halves hp ok hin (fun e => by rw [e] at hk; omega)
        by_cases hs : side p.x k.n = 0
        · rw [if_pos hs, il hl]
          have : (ents r.tr).filter (inP p) = [] := by
            refine filter_none fun e he hi => ?_
            have h1 := ents_in hr e he
            have h3 := (inP_ins hp h1.1).1 hi
            have h4 := h3.1
            have h5 := h3.2
            have := e.1.s_pos
            rw [hs] at sd
            have hlt : p.x < k.x + k.h := by
              rcases Nat.lt_or_ge p.x (k.x + k.h) with h | h
              · exact h
              · rw [if_neg (by omega)] at sd; cases sd
            rcases hlf.2 with h6 | h6 <;> omega
          rw [this, List.append_nil]
        · rw [if_neg hs, ir hr]
          have : (ents l.tr).filter (inP p) = [] := by
            refine filter_none fun e he hi => ?_
            have h1 := ents_in hl e he
            have h3 := (inP_ins hp h1.1).1 hi
            have h4 := h3.1
            have h5 := h3.2
            have := e.1.s_pos
            have hge : k.x + k.h ≤ p.x := by
              rcases Nat.lt_or_ge p.x (k.x + k.h) with h | h
              · rw [if_pos h] at sd; exact absurd sd hs
              · exact h
            rcases hlf.2 with h6 | h6 <;> omega
          rw [this, List.nil_append]
      · have f := far (.inr h)
        have fl : (ents l.tr).filter (inP p) = [] := filter_none fun e he => f e (by rw [ents]; simp [he])
        have fr : (ents r.tr).filter (inP p) = [] := filter_none fun e he => f e (by rw [ents]; simp [he])
        rw [fl, fr]
        split
        · rw [il hl, fl]; rfl
        · rw [ir hr, fr]; rfl
      · have f := far (.inl h)
        have fl : (ents l.tr).filter (inP p) = [] := filter_none fun e he => f e (by rw [ents]; simp [he])
        have fr : (ents r.tr).filter (inP p) = [] := filter_none fun e he => f e (by rw [ents]; simp [he])
        rw [fl, fr]
        split
        · rw [il hl, fl]; rfl
        · rw [ir hr, fr]; rfl
    · rw [if_neg hk]
      have hks := k.s_pos
      rcases nest ok hp (by omega) with hin | h | h
      · have hh : hasK p k.x = true := by
          unfold hasK
          have h1 := hin.1
          have h3 := hin.2
          simp
          omega
        rw [if_pos hh, MT.tr]
        refine (filter_all fun e he => ?_).symm
        have h1 := hall e he
        exact (inP_ins hp h1.1).2 (Ins.trans ⟨h1.2.1, h1.2.2⟩ hin)
      · have hh : ¬ hasK p k.x = true := by
          unfold hasK
          simp
          omega
        rw [if_neg hh]; exact (filter_none (far (.inl h))).symm
      · have hh : ¬ hasK p k.x = true := by
          unfold hasK
          simp
          omega
        rw [if_neg hh]; exact (filter_none (far (.inr h))).symm

theorem hiT_lies {p : K} : ∀ (m : MT) {W : World} {X : Nat → Prop}, Lies W X m → Lies W X (hiT m p) := by
  intro m
  induction m with
  | nil => intro W X h; exact h
  | node b c k u l r il ir =>
    intro W X h
    rw [hiT]
    split
    · split
      · exact il h.2.2.2.1
      · exact ir h.2.2.2.2
    · split
      · exact h
      · trivial

theorem hiT_nodes {p : K} : ∀ m : MT, nodes (hiT m p).tr ≤ nodes m.tr := by
  intro m
  induction m with
  | nil => exact Nat.le_refl _
  | node b c k u l r il ir =>
    rw [hiT, MT.tr, nodes]
    split
    · split <;> omega
    · split
      · exact Nat.le_refl _
      · exact Nat.zero_le _

theorem highest_any {X : Nat → Prop} (m : MT) (p : K) (w : World) {lo hi : Nat} (hL : Lies w X m) (hW : WF lo hi m.tr) (hp : p.Ok) :
    Calls Try.prog 46 #[m.ptr, pv p] w fun e w' => e = .returned (hiT m p).ptr ∧ Below w.heap.size w w' := by
  obtain ⟨wa, hwa⟩ : ∃ wa, wa = w.alloc (.cells #[.int .u32 (p.x : Int), .int .i64 (p.n : Int)] 37) := ⟨_, rfl⟩
  have hb0 : Below w.heap.size w wa := by rw [hwa]; exact (Below.refl _ _).alloc (Nat.le_refl _) _
  have r1 : wa.heap[w.heap.size]? = some (.cells #[.int .u32 (p.x : Int), .int .i64 (p.n : Int)] 37) := by rw [hwa]; exact heap_alloc_new w _
  have HS : Hid (wa.heap.size = w.heap.size + 1) := by unfold Hid; rw [hwa]; simp
  have HWA := hid hwa
  have HB0 := hid hb0
  have R1 := hid r1
  have HLA := hid (hL.below hb0)
  have HP := hid hp
  obtain ⟨mp, hmp⟩ := ptr_is m
  have HREL : Hid (∃ q : MT, Value.pointer mp = q.ptr ∧ nodes m.tr = nodes q.tr ∧ hiT q p = hiT m p ∧ (∃ lo hi, WF lo hi q.tr) ∧ (∀ W', Lies W' X m → Lies W' X q) ∧ Below wa.heap.size wa wa) :=
    ⟨m, hmp.symm, rfl, rfl, ⟨lo, hi, hW⟩, fun _ h => h, Below.refl _ _⟩
  rw [hmp]
  unfold pv
  clear hwa r1 hb0 hL hW hp hmp
  go_enter Try.func46, Try.ntmps46
  go_upto_region 1 with fail
  rw [← HWA.out]
  go_upto_region 2 with fail
  obtain ⟨N0, HN0⟩ : ∃ N0, Hid (N0 = nodes m.tr) := ⟨_, rfl⟩
  rw [← HN0.out] at HREL
  go_loopg [5] N0 (fun gk v wr => Hid (∃ q : MT, v = q.ptr ∧ gk = nodes q.tr ∧ hiT q p = hiT m p ∧ (∃ lo hi, WF lo hi q.tr) ∧ (∀ W', Lies W' X m → Lies W' X q) ∧ Below wa.heap.size wa wr))
  case atStart => exact HREL.out
  case round =>
    obtain ⟨q, rfl, hgk, hq, ⟨lo', hi', hqw⟩, hsub, hb⟩ := hrel.out
    clear hrel HREL
    have HBR := hid hb
    have r2 := below_keeps hb R1.out (by have := HS.out; omega)
    obtain ⟨q0, q1⟩ := Beh.two r2
    cases q with
    | nil =>
      have HRT : Hid ((hiT m p).ptr = .pointer none) := by unfold Hid; rw [← hq]; rfl
      clear hgk hq hqw hsub hb r2
      simp only [MT.ptr]
      go_upto_region 2 with fail
      refine wp_region_beh (by kernel_rfl) (by kernel_rfl) ?_
      repeat (go_big_quiet_step (fail))
      refine wpQuiet_nil ?_
      rintro _ ⟨t, rfl⟩
      have HB1 : Hid (Below w.heap.size w t.wd) := HB0.out.trans ((HBR.out.trans (t.ok.mono HBR.out.size)).mono HB0.out.size)
      have r3 := below_keeps t.ok (below_keeps HBR.out R1.out (by have := HS.out; omega)) (by have := HBR.out.size; have := HS.out; omega)
      obtain ⟨q0, q1⟩ := Beh.two r3
      clear r3
      go_upto_region 4 with fail
      refine wp_region_beh (by kernel_rfl) (by kernel_rfl) ?_
      repeat (go_big_quiet_step (fail))
      refine wpQuiet_nil ?_
      rintro _ ⟨t2, rfl⟩
      have HB2 : Hid (Below w.heap.size w t2.wd) := HB1.out.trans (t2.ok.mono HB1.out.size)
      clear q0 q1
      go_wp2_with fail
      go_ret
      exact ⟨by rw [HRT.out]; rfl, HB2.out⟩
    | node b c k u l r =>
      obtain ⟨ok, _, _, wl, wr', _⟩ := hqw
      have hls := hsub _ (HLA.out.below hb)
      obtain ⟨_, hrow, _, _, _⟩ := hls
      have hlt := (Array.getElem?_eq_some_iff.1 hrow).1
      have n0 : ∀ t : Beh wr, t.wd.cell? ⟨b, 0, none⟩ = some (.int .u32 (k.x : Int)) := fun t => by rw [cell_of_row _ _ _ _ _ _ (below_keeps t.ok hrow hlt)]; rfl
      have n1 : ∀ t : Beh wr, t.wd.cell? ⟨b, 1, none⟩ = some (.int .i64 (k.n : Int)) := fun t => by rw [cell_of_row _ _ _ _ _ _ (below_keeps t.ok hrow hlt)]; rfl
      have HOK := hid ok
      by_cases hk : k.n < p.n
      · have b1 : (k.n : Int) < (p.n : Int) := by omega
        obtain ⟨ch, hch⟩ : ∃ ch : MT, ch = if side p.x k.n = 0 then l else r := ⟨_, rfl⟩
        have HNX : Hid (∀ wz, Below wa.heap.size wa wz → ∃ q : MT, ch.ptr = q.ptr ∧ nodes ch.tr = nodes q.tr ∧ hiT q p = hiT m p ∧ (∃ lo hi, WF lo hi q.tr) ∧ (∀ W', Lies W' X m → Lies W' X q) ∧ Below wa.heap.size wa wz) := fun wz hz => by
          refine ⟨ch, rfl, rfl, ?_, ?_, fun W' hW' => ?_, hz⟩
          · rw [← hq, hiT, if_pos hk, hch]; split <;> rfl
          · rw [hch]; split
            · exact ⟨_, _, wl⟩
            · exact ⟨_, _, wr'⟩
          · have h := hsub W' hW'
            rw [hch]; split
            · exact h.2.2.2.1
            · exact h.2.2.2.2
        have HPOS : Hid (nodes ch.tr < gk) := by
          unfold Hid
          rw [hgk, MT.tr, nodes, hch]
          split <;> omega
        have hs2 := side_lt p.x k.n
        have HROW := hid hrow
        have HCH := hid hch
        clear hgk hq wl wr' hsub hrow hlt ok hk hch hb r2
        simp only [MT.ptr]
        go_upto_region 2 with fail
        refine wp_region_beh (by kernel_rfl) (by kernel_rfl) ?_
        repeat (go_big_quiet_step (fail))
        refine wpQuiet_nil ?_
        rintro _ ⟨t, rfl⟩
        have hrow := below_keeps t.ok HROW.out (Array.getElem?_eq_some_iff.1 HROW.out).1
        have r3 := below_keeps t.ok (below_keeps HBR.out R1.out (by have := HS.out; omega)) (by have := HBR.out.size; have := HS.out; omega)
        have x0 : t.wd.cell? ⟨w.heap.size, 0, none⟩ = some (.int .u32 (p.x : Int)) := by rw [cell_of_row _ _ _ _ _ _ r3]; rfl
        have n1 : t.wd.cell? ⟨b, 1, none⟩ = some (.int .i64 (k.n : Int)) := by rw [cell_of_row _ _ _ _ _ _ hrow]; rfl
        have HB1 : Hid (Below wa.heap.size wa t.wd) := HBR.out.trans (t.ok.mono HBR.out.size)
        by_cases hs : side p.x k.n = 0
        · have HCE : Hid (ch.ptr = l.ptr) := by unfold Hid; rw [HCH.out, if_pos hs]
          obtain ⟨cp, hcp⟩ := ptr_is l
          have n3 : t.wd.cell? ⟨b, 3, none⟩ = some (.pointer cp) := by rw [← hcp, cell_of_row _ _ _ _ _ _ hrow]; rfl
          have HH := fun u => hid (half_any p.x k.n u HOK.out.1)
          rw [show side p.x k.n = 0 from hs] at HH
          have HCP := hid hcp
          clear hs hs2 hrow hcp r3 q0 q1 n0
          go_upto_region 3 with fail
          refine wp_region_still_tail 13 (by kernel_rfl) (by kernel_rfl) ?_
          simp only [List.take_succ_cons, List.take_zero, List.drop_succ_cons, List.drop_zero]
          iterate 8 still_step
          still_call (HH _).out
          iterate 4 still_step
          refine wpStill_nil ?_
          go_wp2_with fail
          go_roundg (nodes ch.tr)
          case measure => exact HPOS.out
          case rel =>
            have h := HNX.out t.wd.drew ⟨HB1.out.os, HB1.out.tape, HB1.out.output, HB1.out.size, HB1.out.block⟩
            rw [HCE.out, HCP.out] at h
            exact h
        · have HCE : Hid (ch.ptr = r.ptr) := by unfold Hid; rw [HCH.out, if_neg hs]
          obtain ⟨cp, hcp⟩ := ptr_is r
          have n3 : t.wd.cell? ⟨b, 4, none⟩ = some (.pointer cp) := by rw [← hcp, cell_of_row _ _ _ _ _ _ hrow]; rfl
          have HH := fun u => hid (half_any p.x k.n u HOK.out.1)
          rw [show side p.x k.n = 1 from by omega] at HH
          have HCP := hid hcp
          clear hs hs2 hrow hcp r3 q0 q1 n0
          go_upto_region 3 with fail
          refine wp_region_still_tail 13 (by kernel_rfl) (by kernel_rfl) ?_
          simp only [List.take_succ_cons, List.take_zero, List.drop_succ_cons, List.drop_zero]
          iterate 8 still_step
          still_call (HH _).out
          iterate 4 still_step
          refine wpStill_nil ?_
          go_wp2_with fail
          go_roundg (nodes ch.tr)
          case measure => exact HPOS.out
          case rel =>
            have h := HNX.out t.wd.drew ⟨HB1.out.os, HB1.out.tape, HB1.out.output, HB1.out.size, HB1.out.block⟩
            rw [HCE.out, HCP.out] at h
            exact h
      · have b1 : ¬ (k.n : Int) < (p.n : Int) := by omega
        have HROW := hid hrow
        have HRT : Hid ((hiT m p).ptr = if hasK p k.x = true then .pointer (some ⟨b, 0, none⟩) else .pointer none) := by
          unfold Hid
          rw [← hq, hiT, if_neg hk]
          split <;> rfl
        clear hgk hq wl wr' hsub hrow hlt ok hk hb r2
        simp only [MT.ptr]
        go_upto_region 2 with fail
        refine wp_region_beh (by kernel_rfl) (by kernel_rfl) ?_
        repeat (go_big_quiet_step (fail))
        refine wpQuiet_nil ?_
        rintro _ ⟨t, rfl⟩
        have HB1 : Hid (Below w.heap.size w t.wd) := HB0.out.trans ((HBR.out.trans (t.ok.mono HBR.out.size)).mono HB0.out.size)
        have hrow := below_keeps t.ok HROW.out (Array.getElem?_eq_some_iff.1 HROW.out).1
        have hlt := (Array.getElem?_eq_some_iff.1 hrow).1
        have r3 := below_keeps t.ok (below_keeps HBR.out R1.out (by have := HS.out; omega)) (by have := HBR.out.size; have := HS.out; omega)
        clear q0 q1 n0 n1
        obtain ⟨q0, q1⟩ := Beh.two r3
        have n0 : ∀ s : Beh t.wd, s.wd.cell? ⟨b, 0, none⟩ = some (.int .u32 (k.x : Int)) := fun s => by rw [cell_of_row _ _ _ _ _ _ (below_keeps s.ok hrow hlt)]; rfl
        have HC : ∀ s : Beh t.wd, Hid (Calls Try.prog 43 #[pv p, .int .u32 (k.x : Int)] s.wd fun e w'' => e = .returned (.bool (hasK p k.x)) ∧ ∃ s' : Beh t.wd, w'' = s'.wd) := fun s => Calls.beh (contains_ok k.x _ HP.out)
        unfold pv at HC
        cases hh : hasK p k.x with
        | true =>
          rw [hh] at HC HRT
          clear hrow hlt r3 hh
          go_upto_region 4 with fail
          refine wp_region_beh (by kernel_rfl) (by kernel_rfl) ?_
          repeat (go_big_quiet_step (first | (go_at_call 43; exact (HC _).out)))
          refine wpQuiet_nil ?_
          rintro _ ⟨t2, rfl⟩
          have HB2 : Hid (Below w.heap.size w t2.wd) := HB1.out.trans (t2.ok.mono HB1.out.size)
          clear q0 q1 n0 HC
          go_wp2_with fail
          go_ret
          exact ⟨by rw [HRT.out]; rfl, HB2.out⟩
        | false =>
          rw [hh] at HC HRT
          clear hrow hlt r3 hh
          go_upto_region 4 with fail
          refine wp_region_beh (by kernel_rfl) (by kernel_rfl) ?_
          repeat (go_big_quiet_step (first | (go_at_call 43; exact (HC _).out)))
          refine wpQuiet_nil ?_
          rintro _ ⟨t2, rfl⟩
          have HB2 : Hid (Below w.heap.size w t2.wd) := HB1.out.trans (t2.ok.mono HB1.out.size)
          clear q0 q1 n0 HC
          go_wp2_with fail
          go_ret
          exact ⟨by rw [HRT.out]; rfl, HB2.out⟩
end Go.Proofs.Ytmnafocmbcgdiac

/-
  trie.Within's iterator.
-/
namespace Go.Proofs.Ytmnafocmbcgdiac
open Go.ChangeShapes Go.WideShapes Go.ChangeAt Go.RowKit Go.Shelf Tri N
attribute [local go_sem] Oper.semAt_some
set_option maxHeartbeats 4000000
set_option maxRecDepth 100000

theorem below_new (q : MT) (w : World) :
    Calls Try.prog 45 #[q.ptr] w fun e w' => e = .returned (.func (.func 52) #[] #[.pointer (some ⟨w.heap.size, 0, none⟩)]) ∧ w' = w.alloc (.cells #[q.ptr] 51) := by
  obtain ⟨mp, hmp⟩ := ptr_is q
  rw [hmp]
  go_enter Try.func45, Try.ntmps45
  go_wp2_with fail
  go_ret
  exact ⟨rfl, rfl⟩

/-- How many of the first k have a value. -/
def cnt (L : List MT) (k : Nat) : Nat := ((L.take k).filterMap MT.ent).length

theorem cnt_zero (L : List MT) : cnt L 0 = 0 := by simp [cnt]
theorem cnt_all (L : List MT) : cnt L L.length = (L.filterMap MT.ent).length := by simp [cnt]
theorem cnt_none {L : List MT} {k : Nat} {x : MT} (h : L[k]? = some x) (hx : x.ent = none) : cnt L (k + 1) = cnt L k := by
  unfold cnt
  rw [take_snoc h, List.filterMap_append]
  simp [hx]
theorem cnt_some {L : List MT} {k : Nat} {x : MT} {e : K × Int} (h : L[k]? = some x) (hx : x.ent = some e) : cnt L (k + 1) = cnt L k + 1 := by
  unfold cnt
  rw [take_snoc h, List.filterMap_append]
  simp [hx]
theorem cnt_at {L : List MT} {k : Nat} {x : MT} {e : K × Int} (h : L[k]? = some x) (hx : x.ent = some e) : (L.filterMap MT.ent)[cnt L k]? = some e := by
  have hs : L = L.take k ++ x :: L.drop (k + 1) := by
    have hlt := (List.getElem?_eq_some_iff.1 h).1
    have he := (List.getElem?_eq_some_iff.1 h).2
    rw [← he, ← List.drop_eq_getElem_cons hlt, List.take_append_drop]
  have e1 : L.filterMap MT.ent = (L.take k).filterMap MT.ent ++ e :: (L.drop (k + 1)).filterMap MT.ent := by
    conv => lhs; rw [hs]
    rw [List.filterMap_append, List.filterMap_cons_some hx]
  rw [e1]
  unfold cnt
  rw [List.getElem?_append_right (Nat.le_refl _), Nat.sub_self]
  rfl

/-- What Within$1's second region reads and makes. -/
def FW (tb : Nat) (mp : Value) (p : K) (q : MT) (B : Nat) (i : Nat) (x : Value) (u : World) : Prop :=
  match i with
  | 0 => x = .pointer (some ⟨tb, 0, none⟩)
  | 1 => x = .pointer (some ⟨tb, 0, none⟩)
  | 2 => x = .pointer (some ⟨tb, 0, none⟩)
  | 3 => x = mp
  | 4 => x = pv p
  | 5 => x = q.ptr
  | _ => ∃ b, x = .func (.func 52) #[] #[.pointer (some ⟨b, 0, none⟩)] ∧ B ≤ b ∧ u.heap[b]? = some (.cells #[q.ptr] 51)

theorem FW.keeps (tb : Nat) (mp : Value) (p : K) (q : MT) (B : Nat) : ∀ (i : Nat) (x : Value) (w w' : World), FW tb mp p q B i x w → Below w.heap.size w w' → FW tb mp p q B i x w' := fun i x w w' h hb => by
  match i with
  | 0 | 1 | 2 | 3 | 4 | 5 => exact h
  | n + 6 => obtain ⟨g, h1, h2, h3⟩ := h; exact ⟨g, h1, h2, below_keeps hb h3 (Array.getElem?_eq_some_iff.1 h3).1⟩

/-- The blocks of a Within. -/
structure WiB (W : World) (pbx tbx tb : Nat) (p : K) (m : MT) : Prop where
  pb : W.heap[pbx]? = some (.cells #[.int .u32 (p.x : Int), .int .i64 (p.n : Int)] 37)
  tx : W.heap[tbx]? = some (.cells #[.pointer (some ⟨tb, 0, none⟩)] 26)
  rt : W.heap[tb]? = some (.cells #[m.ptr] 53)

theorem WiB.below {W W' : World} {pbx tbx tb : Nat} {p : K} {m : MT} (h : WiB W pbx tbx tb p m) (hb : Below W.heap.size W W') : WiB W' pbx tbx tb p m :=
  ⟨below_keeps hb h.pb (Array.getElem?_eq_some_iff.1 h.pb).1, below_keeps hb h.tx (Array.getElem?_eq_some_iff.1 h.tx).1, below_keeps hb h.rt (Array.getElem?_eq_some_iff.1 h.rt).1⟩

theorem load_tp {u : World} {p : Addr} {x : Option Addr} (h : u.cell? p = some (.pointer x)) : (Instr.loadAt 26 (.pointer (some p))).run Try.prog u = .ok (.pointer x) u := by
  simp [go_sem, h]

/-- The values that are known. -/
def FL (l : List (Option Value)) (i : Nat) (v : Value) (_ : World) : Prop := ∀ x, l[i]? = some (some x) → v = x

theorem load_yd {u : World} {p : Addr} {f : Fn} {a b : Array Value} (h : u.cell? p = some (.func f a b)) : (Instr.loadAt 85 (.pointer (some p))).run Try.prog u = .ok (.func f a b) u := by
  simp [go_sem, h]

theorem ex_neqP {o : Oper} {a : Act} {w : World} (x : Operand) (p : Option Addr) (ho : o.op = .binOp .neq 59 x (.const (.pointer none)) 59) (hx : a.eval x = .pointer p) : (execOp a.eval o).run Try.prog w = .ok (.value (.bool p.isSome)) w := by
  have h0 : a.eval (.const (.pointer none)) = .pointer none := rfl
  simp only [execOp, ho, hx, h0]
  cases p <;> simp [eqGuard, go_sem]

theorem pre_node {m q : MT} (h : q ∈ pre m) : (∃ b c k u l r, q = .node b c k u l r) ∧ ∀ W X, Lies W X m → Lies W X q := by
  induction m with
  | nil => cases h
  | node b c k u l r il ir =>
    rw [pre] at h
    rcases List.mem_cons.1 h with h | h
    · exact ⟨⟨b, c, k, u, l, r, h⟩, fun W X hL => by rw [h]; exact hL⟩
    · rcases List.mem_append.1 h with h | h
      · exact ⟨(il h).1, fun W X hL => (il h).2 W X hL.2.2.2.1⟩
      · exact ⟨(ir h).1, fun W X hL => (ir h).2 W X hL.2.2.2.2⟩

theorem within_gives (n : Nat) (hn : 4 ≤ n) (X : Nat → Prop) (pbx tbx tb : Nat) (m : MT) (p : K) (hp : p.Ok) {lo hi : Nat} (hwf : WF lo hi m.tr) (hm : nodes m.tr ≤ 10000000000) :
    GivesN Fence.wide n Try.prog 44 #[.pointer (some ⟨pbx, 0, none⟩), .pointer (some ⟨tbx, 0, none⟩)] (fun e : K × Int => #[pv e.1, .int .i64 e.2]) ((ents m.tr).filter (inP p)) (fun k W => Lies W X m ∧ (k = 0 → WiB W pbx tbx tb p m)) := by
  intro l J Z W hJ hZ hJF hY h0
  obtain ⟨q, hq⟩ : ∃ q, q = hiT m p := ⟨_, rfl⟩
  have hxs : (ents m.tr).filter (inP p) = (pre q).filterMap MT.ent := by rw [pre_ents, hq, hiT_ents hp m hwf]
  have hnq : nodes q.tr ≤ 10000000000 := by rw [hq]; exact Nat.le_trans (hiT_nodes m) hm
  rw [hxs] at hY ⊢
  obtain ⟨W1, HW1⟩ : ∃ W1, Hid (W1 = W.alloc (.cells #[.func (.yield l) #[] #[]] 85)) := ⟨_, rfl⟩
  have hb1 : Below W.heap.size W W1 := by rw [HW1.out]; exact (Below.refl _ _).alloc (Nat.le_refl _) _
  have hs1 : W1.heap.size = W.heap.size + 1 := by rw [HW1.out]; simp
  have ry : W1.heap[W.heap.size]? = some (.cells #[.func (.yield l) #[] #[]] 85) := by rw [HW1.out]; exact heap_alloc_new W _
  have hF0 := hJF _ _ h0
  have hwb := (hF0.2 rfl).below hb1
  have x0 : W1.cell? ⟨pbx, 0, none⟩ = some (.int .u32 (p.x : Int)) := by rw [cell_of_row _ _ _ _ _ _ hwb.pb]; rfl
  have x1 : W1.cell? ⟨pbx, 1, none⟩ = some (.int .i64 (p.n : Int)) := by rw [cell_of_row _ _ _ _ _ _ hwb.pb]; rfl
  have HV := hid (valid_ok W1 hp)
  have HWB := hid hwb
  have HB1 := hid hb1
  have HS1 := hid hs1
  have RY := hid ry
  have HJ := hid hJ
  have HZ := hid hZ
  have HJF := hid hJF
  have HY := hid hY
  have HWF := hid hwf
  have HP := hid hp
  have HQ := hid hq
  have HNQ := hid hnq
  have HJ1 : Hid (J 0 W1) := hJ.below h0 hb1
  have HL1 : Hid (Lies W1 X m) := hF0.1.below hb1
  unfold pv at HV
  clear hJ hZ hJF hY h0 hF0 hwb hb1 hs1 ry hwf hp hq hnq hm hxs
  refine callsIn_of_wp_marks Try.func44 rfl trivial ?_ rfl
  refine wpIn_wide.2 ?_
  simp only [Try.ntmps44, List.size_toArray, List.length_cons, List.length_nil, Nat.reduceAdd, Nat.reduceSub, Array.replicate_succ, Array.replicate_zero, List.push_toArray, List.append_toArray, List.nil_append, List.cons_append]
  go_upto_region 1 with fail
  rw [← HW1.out]
  go_wp2_with fail
  refine HV.out.mono ?_
  rintro _ W2 ⟨rfl, hb2⟩
  have HB2 := hid hb2
  have HWB2 := hid (HWB.out.below hb2)
  have HL2 := hid (HL1.out.below hb2)
  obtain ⟨mp, hmp⟩ := ptr_is m
  have HMP := hid hmp
  clear x0 x1 hb2 hmp
  go_upto_region 2 with fail
  refine wp_region_mono' 6 (fun i => 8 + i) (FW tb (.pointer mp) p q W2.heap.size) (by kernel_rfl) (by kernel_rfl) (FW.keeps _ _ _ _ _) ?_ ?_
  · simp only [List.take_succ_cons, List.take_zero, N.stepsOk]
    refine ⟨?_, ?_, ?_, ?_, ?_, ?_, trivial⟩
    · intro a u vs hb hold hdep
      have hr := (HWB2.out.below hb).tx
      exact wp_val (ex_load _ ⟨tbx, 0, none⟩ (.tmp 2) _ rfl (hold 2 (fun j hj => low (by decide))) (load_tp (by rw [cell_of_row _ _ _ _ _ _ hr]; rfl))) ⟨_, rfl, rfl, hb, Below.refl _ _⟩
    · intro a u vs hb hold hdep
      have h0 := hdep ⟨0, .data⟩ (by simp) rfl (by decide)
      exact wp_val (ex_nil ⟨tb, 0, none⟩ (.tmp 8) rfl (h0.1.trans h0.2)) ⟨_, rfl, rfl, hb, Below.refl _ _⟩
    · intro a u vs hb hold hdep
      have h0 := hdep ⟨1, .data⟩ (by simp) rfl (by decide)
      exact wp_val (ex_field _ ⟨tb, 0, none⟩ (.tmp 9) 0 _ rfl (h0.1.trans h0.2) (fld_tr u)) ⟨_, rfl, rfl, hb, Below.refl _ _⟩
    · intro a u vs hb hold hdep
      have h0 := hdep ⟨2, .data⟩ (by simp) rfl (by decide)
      have hr := (HWB2.out.below hb).rt
      exact wp_val (ex_load _ ⟨tb, 0, none⟩ (.tmp 10) _ rfl (h0.1.trans h0.2) (load_nd (by rw [cell_of_row _ _ _ _ _ _ hr, ← HMP.out]; rfl))) ⟨_, rfl, rfl, hb, Below.refl _ _⟩
    · intro a u vs hb hold hdep
      have hr := (HWB2.out.below hb).pb
      exact wp_val (ex_load _ ⟨pbx, 0, none⟩ (.tmp 1) _ rfl (hold 1 (fun j hj => low (by decide))) (load_pre (x := .int .u32 (p.x : Int)) (y := .int .i64 (p.n : Int)) (by rw [cell_of_row _ _ _ _ _ _ hr]; rfl) (by rw [cell_of_row _ _ _ _ _ _ hr]; rfl))) ⟨_, rfl, rfl, hb, Below.refl _ _⟩
    · intro a u vs hb hold hdep
      have h3 := hdep ⟨3, .data⟩ (by simp) rfl (by decide)
      have h4 := hdep ⟨4, .data⟩ (by simp) rfl (by decide)
      have e3 : a.eval (.tmp 11) = .pointer mp := h3.1.trans h3.2
      have e4 : a.eval (.tmp 12) = pv p := h4.1.trans h4.2
      refine wp_call 46 _ _ rfl (enters_of Try.func46 (by kernel_rfl) rfl) #[.pointer mp, pv p] (by simp only [List.map_toArray, List.map_cons, List.map_nil, e3, e4]) ?_
      rw [← HMP.out]
      refine (highest_any m p u (HL2.out.below hb) HWF.out HP.out).mono ?_
      rintro _ u' ⟨rfl, hb'⟩
      exact ⟨_, rfl, _, rfl, by show (hiT m p).ptr = q.ptr; rw [HQ.out], hb.trans (hb'.mono hb.size), hb'⟩
  intro vs W3 hb3 hF
  have e5 : vs 5 = q.ptr := hF 5 (by decide)
  clear hF
  simp only [List.drop_succ_cons, List.drop_zero, puts, List.range, List.range.loop, List.foldr, Nat.reduceAdd, if_true, e5, Act.put, List.setIfInBounds_toArray, List.set_cons_zero, List.set_cons_succ]
  clear e5
  generalize vs 0 = z0
  generalize vs 1 = z1
  generalize vs 2 = z2
  generalize vs 3 = z3
  generalize vs 4 = z4
  obtain ⟨qp, hqp⟩ := ptr_is q
  have HBN := hid (below_new q W3)
  rw [hqp] at HBN ⊢
  have HQP := hid hqp
  have HB3 := hid hb3
  clear hb3 hqp
  go_wp2_with fail
  refine HBN.out.mono ?_
  rintro _ W4 ⟨rfl, hW4⟩
  have hb4 : Below W3.heap.size W3 W4 := by rw [hW4]; exact (Below.refl _ _).alloc (Nat.le_refl _) _
  have hs4 : W4.heap.size = W3.heap.size + 1 := by rw [hW4]; simp
  have rb : W4.heap[W3.heap.size]? = some (.cells #[.pointer qp] 51) := by rw [hW4]; exact heap_alloc_new W3 _
  have hb24 : Below W1.heap.size W1 W4 := HB2.out.trans ((HB3.out.trans (hb4.mono HB3.out.size)).mono HB2.out.size)
  have HS4 := hid hs4
  have HSZ : Hid (W.heap.size < W3.heap.size) := by
    have h1 := HS1.out
    have h2 := HB2.out.size
    have h3 := HB3.out.size
    unfold Hid; omega
  have HI0 : Hid (J (cnt (pre q) 0) W4) := by unfold Hid; rw [cnt_zero]; exact HJ.out.below HJ1.out hb24
  have HIX : Hid (J (cnt (pre q) 0) W4 ∧ W4.heap[W.heap.size]? = some (.cells #[.func (.yield l) #[] #[]] 85) ∧ W4.heap[W3.heap.size]? = some (.cells #[.pointer qp] 51) ∧ W3.heap.size < W4.heap.size) :=
    ⟨HI0.out, below_keeps hb24 RY.out (by have := HS1.out; omega), rb, by omega⟩
  clear hW4 hb4 hs4 rb hb24
  go_wp2_with fail
  refine wpIn_wide.1 (wpIn_givesU (β := Unit) (n := n) (F := Fence.wide) rfl (by omega) (gf := 52) (lb := #[.pointer (some ⟨W3.heap.size, 0, none⟩)]) rfl trivial (enters_of Try.func52 (by kernel_rfl) rfl)
    (below_gives (n - 1) (by omega) X W3.heap.size q HNQ.out) (fun _ => rfl)
    (fun k V => J (cnt (pre q) k) V ∧ V.heap[W.heap.size]? = some (.cells #[.func (.yield l) #[] #[]] 85) ∧ (k = 0 → V.heap[W3.heap.size]? = some (.cells #[.pointer qp] 51)) ∧ W3.heap.size < V.heap.size)
    (fun c V => c = .ret ∧ Z () V) ?hI ?hIx ?hF ?h0
    (fun x _ t => (t.setIfInBounds 15 x.ptr).setIfInBounds 4 x.ptr) (fun _ _ _ => True) (fun _ _ _ _ _ _ _ _ _ => trivial) ?assign ?body ?done ?stop)
  case hI =>
    rintro k A B row ⟨i1, i2, i3, i4⟩ hg hr
    have hsz := HSZ.out
    have hs4 := HS4.out
    refine ⟨HJ.out _ A B row i1 hg (fun r e => ⟨by have := (hr r e).1; omega, (hr r e).2⟩), ?_, fun hk => ?_, Nat.lt_of_lt_of_le i4 hg.size⟩
    · exact (hg.block _ (by omega) (fun e => by have := (hr _ e.symm).1; omega)).trans i2
    · exact (hg.block _ (by omega) (fun e => by have := (hr _ e.symm).1; omega)).trans (i3 hk)
  case hIx =>
    rintro c A B row ⟨i1, i2⟩ hg hr
    have hsz := HSZ.out
    have hs4 := HS4.out
    exact ⟨i1, HZ.out _ A B row i2 hg (fun r e => ⟨by have := (hr r e).1; omega, (hr r e).2⟩)⟩
  case hF =>
    rintro k V ⟨i1, i2, i3, i4⟩
    refine ⟨by rw [HQ.out]; exact hiT_lies m (HJF.out _ _ i1).1, fun hk => by rw [HQP.out]; exact i3 hk⟩
  case h0 => exact ⟨HIX.out.1, HIX.out.2.1, fun _ => HIX.out.2.2.1, HIX.out.2.2.2⟩
  case assign =>
    intro l2 k x V K hi hx hK
    obtain ⟨xp, hxp⟩ := ptr_is x
    have HK := hK () V (KeepsN.refl _ _) hi trivial
    simp only [hxp, List.setIfInBounds_toArray, List.set_cons_zero, List.set_cons_succ] at HK ⊢
    clear hK hi hx
    gi_wp2
    exact HK
  case body =>
    rintro l2 k x y V hl2 _ ⟨i1, i2, i3, i4⟩ _ hx
    obtain ⟨⟨b, c, kk, u, lt, rt, rfl⟩, hxl⟩ := pre_node (List.mem_of_getElem? hx)
    have hlq : Lies V X q := by rw [HQ.out]; exact hiT_lies m (HJF.out _ _ i1).1
    obtain ⟨_, hrow, hbox, _, _⟩ := hxl _ _ hlq
    have n0 : V.cell? ⟨b, 0, none⟩ = some (.int .u32 (kk.x : Int)) := by rw [cell_of_row _ _ _ _ _ _ hrow]; rfl
    have n1 : V.cell? ⟨b, 1, none⟩ = some (.int .i64 (kk.n : Int)) := by rw [cell_of_row _ _ _ _ _ _ hrow]; rfl
    have y0 : V.cell? ⟨W.heap.size, 0, none⟩ = some (.func (.yield l) #[] #[]) := by rw [cell_of_row _ _ _ _ _ _ i2]; rfl
    simp only [MT.ptr, List.setIfInBounds_toArray, List.set_cons_zero, List.set_cons_succ]
    have hbd : Below V.heap.size V V.drew := ⟨rfl, rfl, rfl, Nat.le_refl _, fun _ _ => rfl⟩
    cases u with
    | none =>
      have n2 : V.cell? ⟨b, 2, none⟩ = some (.pointer none) := by rw [cell_of_row _ _ _ _ _ _ hrow]; rfl
      have HFIN : Hid (KeepsN W4.heap.size V V.drew ∧ J (cnt (pre q) (k + 1)) V.drew ∧ V.drew.heap[W.heap.size]? = some (.cells #[.func (.yield l) #[] #[]] 85) ∧ (k + 1 = 0 → V.drew.heap[W3.heap.size]? = some (.cells #[.pointer qp] 51)) ∧ W3.heap.size < V.drew.heap.size) :=
        ⟨KeepsN.of_below hbd, by rw [cnt_none hx rfl]; exact HJ.out.below i1 hbd, i2, fun h => by omega, i4⟩
      clear hrow hbox i1 i2 i3 i4 hx hxl hlq hbd
      gi_wp2
      refine wpIn_region_guarded' 17 (fun i => 16 + i) (FL [some (.pointer (some ⟨b, 0, none⟩)), some (.pointer (some ⟨b, 0, none⟩)), some (.pointer (some ⟨b, 2, none⟩)), some (.pointer none), some (.bool false), some (.bool false), some undef, some undef, some undef, some undef, some undef, some undef, some undef, some undef, some undef, some undef, some undef]) (fun w => w = V.drew) (fun _ w w' => w' = w) (by kernel_rfl) (by kernel_rfl) rfl (fun _ _ _ _ _ _ h _ _ => h) ?_ ?_
      · simp only [List.take_succ_cons, List.take_zero, N.stepsG]
        refine ⟨?_, ?_, ?_, ?_, ?_, ?_, ?_, ?_, ?_, ?_, ?_, ?_, ?_, ?_, ?_, ?_, ?_, trivial⟩
        · intro a w vs hI hold hdep
          obtain rfl : w = V.drew := hI
          exact opAt_plain rfl (wpIn_val (fun _ h => by cases h) (ex_move (.tmp 4) _ rfl (hold 4 (fun j hj => low (by decide)))) ⟨_, rfl, fun x hx => Option.some.inj (Option.some.inj hx), rfl, rfl⟩)
        · intro a w vs hI hold hdep
          obtain rfl : w = V.drew := hI
          have h0 := hdep ⟨0, .data⟩ (by simp) rfl (by decide)
          have e0 := h0.1.trans (h0.2 _ rfl)
          exact opAt_plain rfl (wpIn_val (fun _ h => by cases h) (ex_nil _ (.tmp 16) rfl e0) ⟨_, rfl, fun x hx => Option.some.inj (Option.some.inj hx), rfl, rfl⟩)
        · intro a w vs hI hold hdep
          obtain rfl : w = V.drew := hI
          have h1 := hdep ⟨1, .data⟩ (by simp) rfl (by decide)
          have e1 := h1.1.trans (h1.2 _ rfl)
          exact opAt_plain rfl (wpIn_val (fun _ h => by cases h) (ex_field _ _ (.tmp 17) 1 _ rfl e1 (fld_nd _).2.1) ⟨_, rfl, fun x hx => Option.some.inj (Option.some.inj hx), rfl, rfl⟩)
        · intro a w vs hI hold hdep
          obtain rfl : w = V.drew := hI
          have h2 := hdep ⟨2, .data⟩ (by simp) rfl (by decide)
          have e2 := h2.1.trans (h2.2 _ rfl)
          exact opAt_plain rfl (wpIn_val (fun _ h => by cases h) (ex_load _ ⟨b, 2, none⟩ (.tmp 18) _ rfl e2 (load_vp n2)) ⟨_, rfl, fun x hx => Option.some.inj (Option.some.inj hx), rfl, rfl⟩)
        · intro a w vs hI hold hdep
          obtain rfl : w = V.drew := hI
          have h3 := hdep ⟨3, .data⟩ (by simp) rfl (by decide)
          have e3 := h3.1.trans (h3.2 _ rfl)
          exact opAt_plain rfl (wpIn_val (fun _ h => by cases h) (ex_neqP (.tmp 19) _ rfl e3) ⟨_, rfl, fun x hx => Option.some.inj (Option.some.inj hx), rfl, rfl⟩)
        · intro a w vs hI hold hdep
          obtain rfl : w = V.drew := hI
          have h4 := hdep ⟨4, .data⟩ (by simp) rfl (by decide)
          have e4 := h4.1.trans (h4.2 _ rfl)
          exact opAt_plain rfl (wpIn_val (fun _ h => by cases h) (ex_move (.tmp 20) _ rfl e4) ⟨_, rfl, fun x hx => Option.some.inj (Option.some.inj hx), rfl, rfl⟩)
        · intro a w vs hI hold hdep
          obtain rfl : w = V.drew := hI
          have hg := hdep ⟨5, .guard⟩ (by simp) rfl (by decide)
          have eg := hg.1.trans (hg.2 _ rfl)
          exact opAt_skip (j := 5) (t := 21) (b := true) rfl rfl eg ⟨undef, rfl, fun x hx => Option.some.inj (Option.some.inj hx), rfl, rfl⟩
        · intro a w vs hI hold hdep
          obtain rfl : w = V.drew := hI
          have hg := hdep ⟨5, .guard⟩ (by simp) rfl (by decide)
          have eg := hg.1.trans (hg.2 _ rfl)
          exact opAt_skip (j := 5) (t := 21) (b := true) rfl rfl eg ⟨undef, rfl, fun x hx => Option.some.inj (Option.some.inj hx), rfl, rfl⟩
        · intro a w vs hI hold hdep
          obtain rfl : w = V.drew := hI
          have hg := hdep ⟨5, .guard⟩ (by simp) rfl (by decide)
          have eg := hg.1.trans (hg.2 _ rfl)
          exact opAt_skip (j := 5) (t := 21) (b := true) rfl rfl eg ⟨undef, rfl, fun x hx => Option.some.inj (Option.some.inj hx), rfl, rfl⟩
        · intro a w vs hI hold hdep
          obtain rfl : w = V.drew := hI
          have hg := hdep ⟨5, .guard⟩ (by simp) rfl (by decide)
          have eg := hg.1.trans (hg.2 _ rfl)
          exact opAt_skip (j := 5) (t := 21) (b := true) rfl rfl eg ⟨undef, rfl, fun x hx => Option.some.inj (Option.some.inj hx), rfl, rfl⟩
        · intro a w vs hI hold hdep
          obtain rfl : w = V.drew := hI
          have hg := hdep ⟨5, .guard⟩ (by simp) rfl (by decide)
          have eg := hg.1.trans (hg.2 _ rfl)
          exact opAt_skip (j := 5) (t := 21) (b := true) rfl rfl eg ⟨undef, rfl, fun x hx => Option.some.inj (Option.some.inj hx), rfl, rfl⟩
        · intro a w vs hI hold hdep
          obtain rfl : w = V.drew := hI
          have hg := hdep ⟨5, .guard⟩ (by simp) rfl (by decide)
          have eg := hg.1.trans (hg.2 _ rfl)
          exact opAt_skip (j := 5) (t := 21) (b := true) rfl rfl eg ⟨undef, rfl, fun x hx => Option.some.inj (Option.some.inj hx), rfl, rfl⟩
        · intro a w vs hI hold hdep
          obtain rfl : w = V.drew := hI
          have hg := hdep ⟨5, .guard⟩ (by simp) rfl (by decide)
          have eg := hg.1.trans (hg.2 _ rfl)
          exact opAt_skip (j := 5) (t := 21) (b := true) rfl rfl eg ⟨undef, rfl, fun x hx => Option.some.inj (Option.some.inj hx), rfl, rfl⟩
        · intro a w vs hI hold hdep
          obtain rfl : w = V.drew := hI
          have hg := hdep ⟨5, .guard⟩ (by simp) rfl (by decide)
          have eg := hg.1.trans (hg.2 _ rfl)
          exact opAt_skip (j := 5) (t := 21) (b := true) rfl rfl eg ⟨undef, rfl, fun x hx => Option.some.inj (Option.some.inj hx), rfl, rfl⟩
        · intro a w vs hI hold hdep
          obtain rfl : w = V.drew := hI
          have hg := hdep ⟨5, .guard⟩ (by simp) rfl (by decide)
          have eg := hg.1.trans (hg.2 _ rfl)
          exact opAt_skip (j := 5) (t := 21) (b := true) rfl rfl eg ⟨undef, rfl, fun x hx => Option.some.inj (Option.some.inj hx), rfl, rfl⟩
        · intro a w vs hI hold hdep
          obtain rfl : w = V.drew := hI
          have hg := hdep ⟨5, .guard⟩ (by simp) rfl (by decide)
          have eg := hg.1.trans (hg.2 _ rfl)
          exact opAt_skip (j := 5) (t := 21) (b := true) rfl rfl eg ⟨undef, rfl, fun x hx => Option.some.inj (Option.some.inj hx), rfl, rfl⟩
        · intro a w vs hI hold hdep
          obtain rfl : w = V.drew := hI
          have hg := hdep ⟨5, .guard⟩ (by simp) rfl (by decide)
          have eg := hg.1.trans (hg.2 _ rfl)
          exact opAt_skip (j := 5) (t := 21) (b := true) rfl rfl eg ⟨undef, rfl, fun x hx => Option.some.inj (Option.some.inj hx), rfl, rfl⟩
      intro vs V2 hV2 hF
      subst hV2
      have f0 := hF 0 (by decide) _ rfl
      have f1 := hF 1 (by decide) _ rfl
      have f2 := hF 2 (by decide) _ rfl
      have f3 := hF 3 (by decide) _ rfl
      have f4 := hF 4 (by decide) _ rfl
      have f5 := hF 5 (by decide) _ rfl
      have f6 := hF 6 (by decide) _ rfl
      have f7 := hF 7 (by decide) _ rfl
      have f8 := hF 8 (by decide) _ rfl
      have f9 := hF 9 (by decide) _ rfl
      have f10 := hF 10 (by decide) _ rfl
      have f11 := hF 11 (by decide) _ rfl
      have f12 := hF 12 (by decide) _ rfl
      have f13 := hF 13 (by decide) _ rfl
      have f14 := hF 14 (by decide) _ rfl
      have f15 := hF 15 (by decide) _ rfl
      have f16 := hF 16 (by decide) _ rfl
      simp only [List.drop_succ_cons, List.drop_zero, puts, List.range, List.range.loop, List.foldr, Nat.reduceAdd, if_true, f0, f1, f2, f3, f4, f5, f6, f7, f8, f9, f10, f11, f12, f13, f14, f15, f16, Act.put, List.setIfInBounds_toArray, List.set_cons_zero, List.set_cons_succ]
      clear hF f0 f1 f2 f3 f4 f5 f6 f7 f8 f9 f10 f11 f12 f13 f14 f15 f16
      gi_wp2
      refine ⟨fun _ _ => trivial, ?_⟩
      gi_wp2
      exact HFIN.out
    | some v =>
      have n2 : V.cell? ⟨b, 2, none⟩ = some (.pointer (some ⟨c, 0, none⟩)) := by rw [cell_of_row _ _ _ _ _ _ hrow]; rfl
      have v0 : V.cell? ⟨c, 0, none⟩ = some (.int .i64 v) := by rw [cell_of_row _ _ _ _ _ _ (hbox v rfl).2]; rfl
      obtain ⟨fn, tmps, assign, body, hy, hR⟩ := HY.out _ (kk, v) V.drew (HJ.out.below i1 hbd) (cnt_at hx rfl)
      unfold pv at hy
      simp only at hy
      have HI2 := hid i2
      have HI4 := hid i4
      have HX := hid hx
      clear hrow hbox i1 i2 i3 i4 hx hxl hlq hbd
      gi_wp2
      refine wpIn_region_guarded' 17 (fun i => 16 + i) (FL [some (.pointer (some ⟨b, 0, none⟩)), some (.pointer (some ⟨b, 0, none⟩)), some (.pointer (some ⟨b, 2, none⟩)), some (.pointer (some ⟨c, 0, none⟩)), some (.bool true), some (.bool true), some (.func (.yield l) #[] #[]), some (.pointer (some ⟨b, 0, none⟩)), some (.pointer (some ⟨b, 0, none⟩)), some (.pointer (some ⟨b, 0, none⟩)), some (.agg #[.int .u32 (kk.x : Int), .int .i64 (kk.n : Int)]), some (.pointer (some ⟨b, 0, none⟩)), some (.pointer (some ⟨b, 0, none⟩)), some (.pointer (some ⟨b, 2, none⟩)), some (.pointer (some ⟨c, 0, none⟩)), some (.pointer (some ⟨c, 0, none⟩)), some (.int .i64 v)]) (fun w => w = V.drew) (fun _ w w' => w' = w) (by kernel_rfl) (by kernel_rfl) rfl (fun _ _ _ _ _ _ h _ _ => h) ?_ ?_
      · simp only [List.take_succ_cons, List.take_zero, N.stepsG]
        refine ⟨?_, ?_, ?_, ?_, ?_, ?_, ?_, ?_, ?_, ?_, ?_, ?_, ?_, ?_, ?_, ?_, ?_, trivial⟩
        · intro a w vs hI hold hdep
          obtain rfl : w = V.drew := hI
          exact opAt_plain rfl (wpIn_val (fun _ h => by cases h) (ex_move (.tmp 4) _ rfl (hold 4 (fun j hj => low (by decide)))) ⟨_, rfl, fun x hx => Option.some.inj (Option.some.inj hx), rfl, rfl⟩)
        · intro a w vs hI hold hdep
          obtain rfl : w = V.drew := hI
          have h0 := hdep ⟨0, .data⟩ (by simp) rfl (by decide)
          have e0 := h0.1.trans (h0.2 _ rfl)
          exact opAt_plain rfl (wpIn_val (fun _ h => by cases h) (ex_nil _ (.tmp 16) rfl e0) ⟨_, rfl, fun x hx => Option.some.inj (Option.some.inj hx), rfl, rfl⟩)
        · intro a w vs hI hold hdep
          obtain rfl : w = V.drew := hI
          have h1 := hdep ⟨1, .data⟩ (by simp) rfl (by decide)
          have e1 := h1.1.trans (h1.2 _ rfl)
          exact opAt_plain rfl (wpIn_val (fun _ h => by cases h) (ex_field _ _ (.tmp 17) 1 _ rfl e1 (fld_nd _).2.1) ⟨_, rfl, fun x hx => Option.some.inj (Option.some.inj hx), rfl, rfl⟩)
        · intro a w vs hI hold hdep
          obtain rfl : w = V.drew := hI
          have h2 := hdep ⟨2, .data⟩ (by simp) rfl (by decide)
          have e2 := h2.1.trans (h2.2 _ rfl)
          exact opAt_plain rfl (wpIn_val (fun _ h => by cases h) (ex_load _ ⟨b, 2, none⟩ (.tmp 18) _ rfl e2 (load_vp n2)) ⟨_, rfl, fun x hx => Option.some.inj (Option.some.inj hx), rfl, rfl⟩)
        · intro a w vs hI hold hdep
          obtain rfl : w = V.drew := hI
          have h3 := hdep ⟨3, .data⟩ (by simp) rfl (by decide)
          have e3 := h3.1.trans (h3.2 _ rfl)
          exact opAt_plain rfl (wpIn_val (fun _ h => by cases h) (ex_neqP (.tmp 19) _ rfl e3) ⟨_, rfl, fun x hx => Option.some.inj (Option.some.inj hx), rfl, rfl⟩)
        · intro a w vs hI hold hdep
          obtain rfl : w = V.drew := hI
          have h4 := hdep ⟨4, .data⟩ (by simp) rfl (by decide)
          have e4 := h4.1.trans (h4.2 _ rfl)
          exact opAt_plain rfl (wpIn_val (fun _ h => by cases h) (ex_move (.tmp 20) _ rfl e4) ⟨_, rfl, fun x hx => Option.some.inj (Option.some.inj hx), rfl, rfl⟩)
        · intro a w vs hI hold hdep
          obtain rfl : w = V.drew := hI
          have hg := hdep ⟨5, .guard⟩ (by simp) rfl (by decide)
          have eg := hg.1.trans (hg.2 _ rfl)
          exact opAt_go (j := 5) (t := 21) (b := true) rfl rfl eg (wpIn_val (fun _ h => by cases h) (ex_load _ ⟨W.heap.size, 0, none⟩ (.tmp 3) _ rfl (hold 3 (fun j hj => low (by decide))) (load_yd y0)) ⟨_, rfl, fun x hx => Option.some.inj (Option.some.inj hx), rfl, rfl⟩)
        · intro a w vs hI hold hdep
          obtain rfl : w = V.drew := hI
          have hg := hdep ⟨5, .guard⟩ (by simp) rfl (by decide)
          have eg := hg.1.trans (hg.2 _ rfl)
          exact opAt_go (j := 5) (t := 21) (b := true) rfl rfl eg (wpIn_val (fun _ h => by cases h) (ex_move (.tmp 4) _ rfl (hold 4 (fun j hj => low (by decide)))) ⟨_, rfl, fun x hx => Option.some.inj (Option.some.inj hx), rfl, rfl⟩)
        · intro a w vs hI hold hdep
          obtain rfl : w = V.drew := hI
          have hg := hdep ⟨5, .guard⟩ (by simp) rfl (by decide)
          have eg := hg.1.trans (hg.2 _ rfl)
          have h7 := hdep ⟨7, .data⟩ (by simp) rfl (by decide)
          have e7 := h7.1.trans (h7.2 _ rfl)
          exact opAt_go (j := 5) (t := 21) (b := true) rfl rfl eg (wpIn_val (fun _ h => by cases h) (ex_nil _ (.tmp 23) rfl e7) ⟨_, rfl, fun x hx => Option.some.inj (Option.some.inj hx), rfl, rfl⟩)
        · intro a w vs hI hold hdep
          obtain rfl : w = V.drew := hI
          have hg := hdep ⟨5, .guard⟩ (by simp) rfl (by decide)
          have eg := hg.1.trans (hg.2 _ rfl)
          have h8 := hdep ⟨8, .data⟩ (by simp) rfl (by decide)
          have e8 := h8.1.trans (h8.2 _ rfl)
          exact opAt_go (j := 5) (t := 21) (b := true) rfl rfl eg (wpIn_val (fun _ h => by cases h) (ex_field _ _ (.tmp 24) 0 _ rfl e8 (fld_nd _).1) ⟨_, rfl, fun x hx => Option.some.inj (Option.some.inj hx), rfl, rfl⟩)
        · intro a w vs hI hold hdep
          obtain rfl : w = V.drew := hI
          have hg := hdep ⟨5, .guard⟩ (by simp) rfl (by decide)
          have eg := hg.1.trans (hg.2 _ rfl)
          have h9 := hdep ⟨9, .data⟩ (by simp) rfl (by decide)
          have e9 := h9.1.trans (h9.2 _ rfl)
          exact opAt_go (j := 5) (t := 21) (b := true) rfl rfl eg (wpIn_val (fun _ h => by cases h) (ex_load _ ⟨b, 0, none⟩ (.tmp 25) _ rfl e9 (load_pre n0 n1)) ⟨_, rfl, fun x hx => Option.some.inj (Option.some.inj hx), rfl, rfl⟩)
        · intro a w vs hI hold hdep
          obtain rfl : w = V.drew := hI
          have hg := hdep ⟨5, .guard⟩ (by simp) rfl (by decide)
          have eg := hg.1.trans (hg.2 _ rfl)
          exact opAt_go (j := 5) (t := 21) (b := true) rfl rfl eg (wpIn_val (fun _ h => by cases h) (ex_move (.tmp 4) _ rfl (hold 4 (fun j hj => low (by decide)))) ⟨_, rfl, fun x hx => Option.some.inj (Option.some.inj hx), rfl, rfl⟩)
        · intro a w vs hI hold hdep
          obtain rfl : w = V.drew := hI
          have hg := hdep ⟨5, .guard⟩ (by simp) rfl (by decide)
          have eg := hg.1.trans (hg.2 _ rfl)
          have h11 := hdep ⟨11, .data⟩ (by simp) rfl (by decide)
          have e11 := h11.1.trans (h11.2 _ rfl)
          exact opAt_go (j := 5) (t := 21) (b := true) rfl rfl eg (wpIn_val (fun _ h => by cases h) (ex_nil _ (.tmp 27) rfl e11) ⟨_, rfl, fun x hx => Option.some.inj (Option.some.inj hx), rfl, rfl⟩)
        · intro a w vs hI hold hdep
          obtain rfl : w = V.drew := hI
          have hg := hdep ⟨5, .guard⟩ (by simp) rfl (by decide)
          have eg := hg.1.trans (hg.2 _ rfl)
          have h12 := hdep ⟨12, .data⟩ (by simp) rfl (by decide)
          have e12 := h12.1.trans (h12.2 _ rfl)
          exact opAt_go (j := 5) (t := 21) (b := true) rfl rfl eg (wpIn_val (fun _ h => by cases h) (ex_field _ _ (.tmp 28) 1 _ rfl e12 (fld_nd _).2.1) ⟨_, rfl, fun x hx => Option.some.inj (Option.some.inj hx), rfl, rfl⟩)
        · intro a w vs hI hold hdep
          obtain rfl : w = V.drew := hI
          have hg := hdep ⟨5, .guard⟩ (by simp) rfl (by decide)
          have eg := hg.1.trans (hg.2 _ rfl)
          have h13 := hdep ⟨13, .data⟩ (by simp) rfl (by decide)
          have e13 := h13.1.trans (h13.2 _ rfl)
          exact opAt_go (j := 5) (t := 21) (b := true) rfl rfl eg (wpIn_val (fun _ h => by cases h) (ex_load _ ⟨b, 2, none⟩ (.tmp 29) _ rfl e13 (load_vp n2)) ⟨_, rfl, fun x hx => Option.some.inj (Option.some.inj hx), rfl, rfl⟩)
        · intro a w vs hI hold hdep
          obtain rfl : w = V.drew := hI
          have hg := hdep ⟨5, .guard⟩ (by simp) rfl (by decide)
          have eg := hg.1.trans (hg.2 _ rfl)
          have h14 := hdep ⟨14, .data⟩ (by simp) rfl (by decide)
          have e14 := h14.1.trans (h14.2 _ rfl)
          exact opAt_go (j := 5) (t := 21) (b := true) rfl rfl eg (wpIn_val (fun _ h => by cases h) (ex_nil _ (.tmp 30) rfl e14) ⟨_, rfl, fun x hx => Option.some.inj (Option.some.inj hx), rfl, rfl⟩)
        · intro a w vs hI hold hdep
          obtain rfl : w = V.drew := hI
          have hg := hdep ⟨5, .guard⟩ (by simp) rfl (by decide)
          have eg := hg.1.trans (hg.2 _ rfl)
          have h15 := hdep ⟨15, .data⟩ (by simp) rfl (by decide)
          have e15 := h15.1.trans (h15.2 _ rfl)
          exact opAt_go (j := 5) (t := 21) (b := true) rfl rfl eg (wpIn_val (fun _ h => by cases h) (ex_load _ ⟨c, 0, none⟩ (.tmp 31) _ rfl e15 (load_in v0)) ⟨_, rfl, fun x hx => Option.some.inj (Option.some.inj hx), rfl, rfl⟩)
      intro vs V2 hV2 hF
      subst hV2
      have f0 := hF 0 (by decide) _ rfl
      have f1 := hF 1 (by decide) _ rfl
      have f2 := hF 2 (by decide) _ rfl
      have f3 := hF 3 (by decide) _ rfl
      have f4 := hF 4 (by decide) _ rfl
      have f5 := hF 5 (by decide) _ rfl
      have f6 := hF 6 (by decide) _ rfl
      have f7 := hF 7 (by decide) _ rfl
      have f8 := hF 8 (by decide) _ rfl
      have f9 := hF 9 (by decide) _ rfl
      have f10 := hF 10 (by decide) _ rfl
      have f11 := hF 11 (by decide) _ rfl
      have f12 := hF 12 (by decide) _ rfl
      have f13 := hF 13 (by decide) _ rfl
      have f14 := hF 14 (by decide) _ rfl
      have f15 := hF 15 (by decide) _ rfl
      have f16 := hF 16 (by decide) _ rfl
      simp only [List.drop_succ_cons, List.drop_zero, puts, List.range, List.range.loop, List.foldr, Nat.reduceAdd, if_true, f0, f1, f2, f3, f4, f5, f6, f7, f8, f9, f10, f11, f12, f13, f14, f15, f16, Act.put, List.setIfInBounds_toArray, List.set_cons_zero, List.set_cons_succ]
      clear hF f0 f1 f2 f3 f4 f5 f6 f7 f8 f9 f10 f11 f12 f13 f14 f15 f16
      gi_wp2
      refine ⟨fun h => (by cases h), (roundIn_any hR).mono ?_⟩
      rintro _ V3 ⟨hK3, (⟨rfl, hJ3⟩ | ⟨rfl, hZ3⟩)⟩
      · have HFIN : Hid (KeepsN W4.heap.size V V3 ∧ J (cnt (pre q) (k + 1)) V3 ∧ V3.heap[W.heap.size]? = some (.cells #[.func (.yield l) #[] #[]] 85) ∧ (k + 1 = 0 → V3.heap[W3.heap.size]? = some (.cells #[.pointer qp] 51)) ∧ W3.heap.size < V3.heap.size) := by
          have hk : KeepsN W4.heap.size V V3 := (KeepsN.of_below (W := V) (W' := V.drew) ⟨rfl, rfl, rfl, Nat.le_refl _, fun _ _ => rfl⟩).trans (hK3.mono (C := W4.heap.size) (by have := HSZ.out; have := HS4.out; omega))
          refine ⟨hk, by rw [cnt_some HX.out rfl]; exact hJ3, hK3.same _ _ (Nat.le_refl _) HI2.out (.inr (.inr ⟨_, rfl⟩)), fun h => by omega, Nat.lt_of_lt_of_le HI4.out hk.size⟩
        clear hK3 hJ3 hy hR
        gi_wp2
        exact HFIN.out
      · have HFIN : Hid (KeepsN W4.heap.size V V3 ∧ Z () V3) := ⟨(KeepsN.of_below (W := V) (W' := V.drew) ⟨rfl, rfl, rfl, Nat.le_refl _, fun _ _ => rfl⟩).trans (hK3.mono (C := W4.heap.size) (by have := HSZ.out; have := HS4.out; omega)), hZ3⟩
        clear hK3 hZ3 hy hR
        gi_wp2
        exact ⟨HFIN.out.1, rfl, HFIN.out.2⟩
  case done =>
    rintro D V hD ⟨i1, i2, i3, i4⟩ hK
    rw [cnt_all] at i1
    have hbD : Below V.heap.size V V := Below.refl _ _
    have HJD : Hid (J ((pre q).filterMap MT.ent).length (V.putObj D (.deferred none))) := HJ.out.putObj _ i1 (by have := HSZ.out; have := HS4.out; omega) hK (.inl rfl)
    have HKD := hid hK
    clear i1 i2 i3 i4 hK hbD
    go_wp2_with fail
    refine ⟨by simp, .inl ⟨_, _, rfl, run_takeDeferred HKD.out, ?_⟩⟩
    refine ⟨_, (by simp [results, Try.results44, go_sem]; rfl), ⟨_, rfl⟩, .inl HJD.out⟩
  case stop =>
    rintro D c V hD ⟨rfl, i1⟩ hK
    have HZD : Hid (Z () (V.putObj D (.deferred none))) := HZ.out.putObj _ i1 (by have := HSZ.out; have := HS4.out; omega) hK (.inl rfl)
    have HKD := hid hK
    clear i1 hK
    refine wpIn_wide.2 ?_
    go_wp2_with fail
    refine ⟨by simp, .inl ⟨_, _, rfl, run_takeDeferred HKD.out, ?_⟩⟩
    refine ⟨_, (by simp [results, Try.results44, go_sem]; rfl), ⟨_, rfl⟩, .inr HZD.out⟩
end Go.Proofs.Ytmnafocmbcgdiac

/-
  Within, All: what they give; the reference's inside, Within, All.
-/
namespace Go.Proofs.Ytmnafocmbcgdiac
open Go.ChangeShapes Go.WideShapes Go.ChangeAt Go.RowKit Go.Shelf Tri N
set_option maxHeartbeats 4000000
set_option maxRecDepth 100000

theorem GivesN.weak {α : Type} {F : Fence} {n : Nat} {P : Program} {g : Nat} {lb : Array Value} {encs : α → Array Value} {xs : List α} {Fx Fy : Nat → World → Prop} (h : GivesN F n P g lb encs xs Fx) (hF : ∀ k W, Fy k W → Fx k W) : GivesN F n P g lb encs xs Fy :=
  fun l J Z W hJ hZ hJF hY h0 => h l J Z W hJ hZ (fun k W h => hF k W (hJF k W h)) hY h0

/-- The blocks of an iterator, for any two numbers. -/
structure SeqB (W : World) (X : Nat → Prop) (pbx tbx tb x : Nat) (y : Int) (m : MT) : Prop where
  ls : Lies W X m
  pb : W.heap[pbx]? = some (.cells #[.int .u32 (x : Int), .int .i64 y] 37)
  tx : W.heap[tbx]? = some (.cells #[.pointer (some ⟨tb, 0, none⟩)] 26)
  rt : W.heap[tb]? = some (.cells #[m.ptr] 53)

theorem SeqB.below {W W' : World} {X : Nat → Prop} {pbx tbx tb x : Nat} {y : Int} {m : MT} (h : SeqB W X pbx tbx tb x y m) (hb : Below W.heap.size W W') : SeqB W' X pbx tbx tb x y m :=
  ⟨h.ls.below hb, below_keeps hb h.pb (Array.getElem?_eq_some_iff.1 h.pb).1, below_keeps hb h.tx (Array.getElem?_eq_some_iff.1 h.tx).1, below_keeps hb h.rt (Array.getElem?_eq_some_iff.1 h.rt).1⟩

/-- What an iterator hands out. -/
def entsIn (L : List (K × Int)) (x : Nat) (y : Int) : List (K × Int) := if valB x y then L.filter (inP ⟨x, y.toNat⟩) else []

theorem within_none (n : Nat) (pbx tbx x : Nat) (y : Int) (hx : x < 4294967296) (hb : Bad x y) :
    GivesN Fence.wide n Try.prog 44 #[.pointer (some ⟨pbx, 0, none⟩), .pointer (some ⟨tbx, 0, none⟩)] (fun e : K × Int => #[pv e.1, .int .i64 e.2]) [] (fun _ W => W.heap[pbx]? = some (.cells #[.int .u32 (x : Int), .int .i64 y] 37)) := by
  intro l J Z W hJ hZ hJF hY h0
  obtain ⟨W1, HW1⟩ : ∃ W1, Hid (W1 = W.alloc (.cells #[.func (.yield l) #[] #[]] 85)) := ⟨_, rfl⟩
  have hb1 : Below W.heap.size W W1 := by rw [HW1.out]; exact (Below.refl _ _).alloc (Nat.le_refl _) _
  have hr0 := hJF _ _ h0
  have hr := below_keeps hb1 hr0 (Array.getElem?_eq_some_iff.1 hr0).1
  have x0 : W1.cell? ⟨pbx, 0, none⟩ = some (.int .u32 (x : Int)) := by rw [cell_of_row _ _ _ _ _ _ hr]; rfl
  have x1 : W1.cell? ⟨pbx, 1, none⟩ = some (.int .i64 y) := by rw [cell_of_row _ _ _ _ _ _ hr]; rfl
  have HV := hid (valid_bad W1 hx hb)
  have HJ1 : Hid (∀ W2, Below W1.heap.size W1 W2 → J 0 W2) := fun W2 h => hJ.below (hJ.below h0 hb1) h
  unfold qv at HV
  clear hJ hZ hJF hY h0 hr0 hr hb1 hx hb
  refine callsIn_of_wp_marks Try.func44 rfl trivial ?_ rfl
  refine wpIn_wide.2 ?_
  simp only [Try.ntmps44, List.size_toArray, List.length_cons, List.length_nil, Nat.reduceAdd, Nat.reduceSub, Array.replicate_succ, Array.replicate_zero, List.push_toArray, List.append_toArray, List.nil_append, List.cons_append]
  go_upto_region 1 with fail
  rw [← HW1.out]
  go_wp2_with fail
  refine HV.out.mono ?_
  rintro _ W2 ⟨rfl, hb2⟩
  have HJ2 := hid (HJ1.out W2 hb2)
  clear x0 x1 hb2
  go_wp2_with fail
  exact ⟨_, (by simp [results, Try.results44, go_sem]; rfl), ⟨_, rfl⟩, .inl HJ2.out⟩

theorem seq_gives (n : Nat) (hn : 4 ≤ n) (X : Nat → Prop) (pbx tbx tb x : Nat) (y : Int) (m : MT) (hx : x < 4294967296) {lo hi : Nat} (hwf : WF lo hi m.tr) (hm : nodes m.tr ≤ 10000000000) :
    GivesN Fence.wide n Try.prog 44 #[.pointer (some ⟨pbx, 0, none⟩), .pointer (some ⟨tbx, 0, none⟩)] (fun e : K × Int => #[pv e.1, .int .i64 e.2]) (entsIn (ents m.tr) x y) (fun _ W => SeqB W X pbx tbx tb x y m) := by
  unfold entsIn
  rcases bad_or (y := y) hx with hb | ⟨k, hk, rfl, rfl⟩
  · rw [valB_bad hb]
    exact (within_none n pbx tbx x y hx hb).weak fun _ W h => h.pb
  · rw [valB_ok hk]
    exact (within_gives n hn X pbx tbx tb m k hk hwf hm).weak fun _ W h => ⟨h.ls, fun _ => ⟨h.pb, h.tx, h.rt⟩⟩

theorem within_new {tb x : Nat} {y : Int} (w : World) :
    Calls Try.prog 33 #[.pointer (some ⟨tb, 0, none⟩), qv x y] w fun e w' => e = .returned (.func (.func 44) #[] #[.pointer (some ⟨w.heap.size + 1, 0, none⟩), .pointer (some ⟨w.heap.size, 0, none⟩)]) ∧ w' = (w.alloc (.cells #[.pointer (some ⟨tb, 0, none⟩)] 26)).alloc (.cells #[.int .u32 (x : Int), .int .i64 y] 37) := by
  unfold qv
  go_enter Try.func33, Try.ntmps33
  go_wp2_with fail
  go_ret
  exact ⟨rfl, rfl⟩

theorem all_new {tb : Nat} (w : World) :
    Calls Try.prog 31 #[.pointer (some ⟨tb, 0, none⟩)] w fun e w' => e = .returned (.func (.func 44) #[] #[.pointer (some ⟨w.heap.size + 1, 0, none⟩), .pointer (some ⟨w.heap.size, 0, none⟩)]) ∧ w' = (w.alloc (.cells #[.pointer (some ⟨tb, 0, none⟩)] 26)).alloc (.cells #[.int .u32 ((0 : Nat) : Int), .int .i64 0] 37) := by
  have HW := hid (within_new (tb := tb) (x := 0) (y := 0) w)
  unfold qv at HW
  go_enter Try.func31, Try.ntmps31
  go_wp2_with fail
  refine HW.out.mono ?_
  rintro _ w1 ⟨rfl, hw1⟩
  have HW1 := hid hw1
  clear hw1
  go_wp2_with fail
  go_ret
  exact ⟨rfl, HW1.out⟩

theorem entsIn_all {lo hi : Nat} {t : Tr} (hW : WF lo hi t) : entsIn (ents t) 0 0 = ents t := by
  unfold entsIn
  rw [if_pos (by decide)]
  refine filter_all fun e he => ?_
  have h := ents_in hW e he
  exact (inP_ins (p := ⟨0, (0 : Int).toNat⟩) top_ok h.1).2 h.1.top

theorem insideR_any {q p : K} (w : World) (hq : q.Ok) (hp : p.Ok) :
    Calls Try.prog 47 #[pv q, pv p] w fun e w' => e = .returned (.bool (decide (p.n ≤ q.n) && hasK p q.x)) ∧ Below w.heap.size w w' := by
  obtain ⟨w1, hw1⟩ : ∃ w1, w1 = w.alloc (.cells #[.int .u32 (q.x : Int), .int .i64 (q.n : Int)] 37) := ⟨_, rfl⟩
  obtain ⟨w2, hw2⟩ : ∃ w2, w2 = w1.alloc (.cells #[.int .u32 (p.x : Int), .int .i64 (p.n : Int)] 37) := ⟨_, rfl⟩
  have hs1 : w1.heap.size = w.heap.size + 1 := by rw [hw1]; simp
  have hb1 : Below w.heap.size w w1 := by rw [hw1]; exact (Below.refl _ _).alloc (Nat.le_refl _) _
  have hb2 : Below w1.heap.size w1 w2 := by rw [hw2]; exact (Below.refl _ _).alloc (Nat.le_refl _) _
  have hb0 : Below w.heap.size w w2 := hb1.trans (hb2.mono (by omega))
  have r1 : w2.heap[w.heap.size]? = some (.cells #[.int .u32 (q.x : Int), .int .i64 (q.n : Int)] 37) := by
    rw [hb2.block _ (by omega), hw1]; exact heap_alloc_new w _
  have r2 : w2.heap[w.heap.size + 1]? = some (.cells #[.int .u32 (p.x : Int), .int .i64 (p.n : Int)] 37) := by rw [hw2, ← hs1]; exact heap_alloc_new w1 _
  have q0 : w2.cell? ⟨w.heap.size, 0, none⟩ = some (.int .u32 (q.x : Int)) := by rw [cell_of_row _ _ _ _ _ _ r1]; rfl
  have q1 : w2.cell? ⟨w.heap.size, 1, none⟩ = some (.int .i64 (q.n : Int)) := by rw [cell_of_row _ _ _ _ _ _ r1]; rfl
  have p0 : w2.cell? ⟨w.heap.size + 1, 0, none⟩ = some (.int .u32 (p.x : Int)) := by rw [cell_of_row _ _ _ _ _ _ r2]; rfl
  have p1 : w2.cell? ⟨w.heap.size + 1, 1, none⟩ = some (.int .i64 (p.n : Int)) := by rw [cell_of_row _ _ _ _ _ _ r2]; rfl
  have HW2 : Hid (w2 = (w.alloc (.cells #[.int .u32 (q.x : Int), .int .i64 (q.n : Int)] 37)).alloc (.cells #[.int .u32 (p.x : Int), .int .i64 (p.n : Int)] 37)) := by unfold Hid; rw [hw2, hw1]
  have HB0 := hid hb0
  have HH := hid (holdsR_any q.x w2 hp hq.2.2)
  unfold pv at HH ⊢
  generalize hasK p q.x = R at *
  clear hw1 hw2 hs1 hb1 hb2 hb0 r1 r2
  by_cases h : p.n ≤ q.n
  · have h' : (p.n : Int) ≤ (q.n : Int) := by omega
    have HF : Hid ((decide (p.n ≤ q.n) && R) = R) := by unfold Hid; simp [h]
    clear h
    go_enter Try.func47, Try.ntmps47
    go_upto_region 1 with fail
    rw [← HW2.out]
    go_wp2_with fail
    refine HH.out.mono ?_
    rintro _ w3 ⟨rfl, hb3⟩
    clear q0 q1 p0 p1
    go_wp2_with fail
    go_ret
    exact ⟨ret_bool HF.out.symm, HB0.out.trans (hb3.mono HB0.out.size)⟩
  · have h' : ¬ (p.n : Int) ≤ (q.n : Int) := by omega
    have HF : Hid ((decide (p.n ≤ q.n) && R) = false) := by unfold Hid; simp [h]
    clear h
    go_enter Try.func47, Try.ntmps47
    go_upto_region 1 with fail
    rw [← HW2.out]
    go_wp2_with fail
    go_ret
    exact ⟨ret_bool HF.out.symm, HB0.out⟩
end Go.Proofs.Ytmnafocmbcgdiac

/-
  The reference: Within, All.
-/
namespace Go.Proofs.Ytmnafocmbcgdiac
open Go.ChangeShapes Go.WideShapes Go.ChangeAt Go.RowKit Go.Shelf Tri N
set_option maxHeartbeats 4000000
set_option maxRecDepth 100000

def inL (L : List (K × Int)) (p : K) : List (K × Int) := L.filter (inP p)

theorem inL_no {L : List (K × Int)} {j : Nat} {e : K × Int} (he : L[j]? = some e) {p : K} (h : inP p e = false) : inL (L.take (j + 1)) p = inL (L.take j) p := by
  unfold inL
  rw [take_snoc he, List.filter_append]
  simp [h]

theorem inL_yes {L : List (K × Int)} {j : Nat} {e : K × Int} (he : L[j]? = some e) {p : K} (h : inP p e = true) : inL (L.take (j + 1)) p = inL (L.take j) p ++ [e] := by
  unfold inL
  rw [take_snoc he, List.filter_append]
  simp [h]

theorem inL_len (L : List (K × Int)) (p : K) (j : Nat) : (inL (L.take j) p).length ≤ L.length := by
  unfold inL
  refine Nat.le_trans (List.length_filter_le _ _) ?_
  rw [List.length_take]; omega

theorem OwnE.base {w : World} {b c : Nat} {v : Value} {L : List (K × Int)} (h : OwnE w b v L) (hb : c ≤ b) : OwnE w c v L := by
  refine ⟨h.1, ?_⟩
  rcases h.2 with h1 | ⟨g, cap, cur, hv, hb', hrest⟩
  · exact .inl h1
  · exact .inr ⟨g, cap, cur, hv, Nat.le_trans hb hb', hrest⟩

theorem plain_at (g j : Nat) : (⟨g, 0, none⟩ : Addr).add j = ⟨g, j, none⟩ := by
  cases j <;> simp [Addr.add]

theorem withinR_bad {rb x : Nat} {y : Int} (w : World) (hx : x < 4294967296) (h : Bad x y) :
    Calls Try.prog 34 #[.pointer (some ⟨rb, 0, none⟩), qv x y] w fun e w' => e = .returned (.slice none 0 0) ∧ Below w.heap.size w w' := by
  obtain ⟨wa, hwa, hb0, hs0, r1, x0, x1⟩ := one_box w (.int .u32 (x : Int)) (.int .i64 y)
  have HV := hid (validR_any (y := y) wa hx)
  rw [valB_bad h] at HV
  have HWA := hid hwa
  have HB0 := hid hb0
  unfold qv at HV ⊢
  clear hwa hb0 hs0 r1 h
  go_enter Try.func34, Try.ntmps34
  go_upto_region 1 with fail
  rw [← HWA.out]
  go_wp2_with fail
  refine HV.out.mono ?_
  rintro _ w2 ⟨rfl, hb2⟩
  have HB2 : Hid (Below w.heap.size w w2) := HB0.out.trans (hb2.mono HB0.out.size)
  clear x0 x1 hb2
  go_wp2_with fail
  go_ret
  exact ⟨rfl, HB2.out⟩

theorem withinR_ok {rb : Nat} {v : Value} {L : List (K × Int)} (p : K) (w : World) (hR : RefAt w rb v L) (hp : p.Ok) (hlen : L.length ≤ 4000000000000) :
    Calls Try.prog 34 #[.pointer (some ⟨rb, 0, none⟩), pv p] w fun e w' => (∃ v', e = .returned v' ∧ OwnE w' w.heap.size v' (inL L p)) ∧ Below w.heap.size w w' := by
  obtain ⟨i0, hi0, hz0, hz1, hz2⟩ := info_parts infoE
  have HI : Hid (Try.prog.info? 71 = some i0) := hi0
  obtain ⟨ao, n, cap, rfl, HN, hn1, hn2⟩ := hR.2.1.shape
  have hn4 : n ≤ 4000000000000 := by have := HN.out; omega
  obtain ⟨wa, hwa, hb0, hs0, r1, x0, x1⟩ := one_box w (.int .u32 (p.x : Int)) (.int .i64 (p.n : Int))
  have HV := hid (validR_any (y := (p.n : Int)) wa hp.2.2)
  rw [valB_ok hp] at HV
  have HR := hid hR
  have HWA := hid hwa
  have HB0 := hid hb0
  have HS0 := hid hs0
  have R1 := hid r1
  have HP := hid hp
  unfold maxLen at hn2
  unfold pv
  unfold qv at HV
  clear hR hwa r1 hb0 hs0 hi0 hlen hp
  go_enter Try.func34, Try.ntmps34
  go_upto_region 1 with fail
  rw [← HWA.out]
  go_wp2_with fail
  refine HV.out.mono ?_
  rintro _ w4 ⟨rfl, hb3⟩
  have HB4 : Hid (Below w.heap.size w w4) := HB0.out.trans (hb3.mono HB0.out.size)
  have hl3 := (Array.getElem?_eq_some_iff.1 R1.out).1
  have R4 := hid (below_keeps hb3 R1.out hl3)
  have HL4 : Hid (w.heap.size < w4.heap.size) := Nat.lt_of_lt_of_le hl3 hb3.size
  have HR4 := hid (HR.out.below HB4.out)
  clear hb3 hl3 x0 x1
  go_upto_region 5 with fail
  go_loopw [5, 6] (fun t i wr => ∃ (j : Nat), i = .int .i64 (j : Int) ∧ j ≤ n ∧ OwnE wr w4.heap.size t (inL (L.take j) p) ∧ Below w4.heap.size w4 wr) (fun _ i _ => n - (intOf i).toNat)
  case atStart => exact ⟨0, rfl, by omega, World.ownsRow_nil _ _ _ _, Below.refl _ _⟩
  case round =>
    obtain ⟨j, rfl, hj, hown, hb⟩ := hrel
    have hrr := HR4.out.below hb
    have t0 : wr.cell? ⟨rb, 0, none⟩ = some (.slice ao n cap) := by rw [cell_of_row _ _ _ _ _ _ hrr.1]; rfl
    have px := below_keeps hb R4.out HL4.out
    by_cases hjn : j < n
    · have b1 : (j : Int) < (n : Int) := by omega
      have b2 : (0 : Int) ≤ (j : Int) := by omega
      obtain ⟨g, e, hao, hg, he, c0, c1, c2⟩ := hrr.2.1.at j hjn
      subst hao
      obtain ⟨k, v⟩ := e
      simp only at c0 c1 c2
      have HE := hid he
      have hek : k.Ok := hrr.2.2 _ (List.mem_of_getElem? he)
      have hrb : rb < wr.heap.size := (Array.getElem?_eq_some_iff.1 hrr.1).1
      have t1 : ∀ t : Beh wr, t.wd.cell? ⟨rb, 0, none⟩ = some (.slice (some ⟨g, 0, none⟩) n cap) := fun t => (t.ok.cell (p := ⟨rb, 0, none⟩) hrb).trans t0
      have d0 : ∀ t : Beh wr, t.wd.cell? ⟨g, j * 3, none⟩ = some (.int .u32 (k.x : Int)) := fun t => (t.ok.cell (p := ⟨g, _, none⟩) hg).trans c0
      have d1 : ∀ t : Beh wr, t.wd.cell? ⟨g, j * 3 + 1, none⟩ = some (.int .i64 (k.n : Int)) := fun t => (t.ok.cell (p := ⟨g, _, none⟩) hg).trans c1
      have d2 : ∀ t : Beh wr, t.wd.cell? ⟨g, j * 3 + 2, none⟩ = some (.int .i64 v) := fun t => (t.ok.cell (p := ⟨g, _, none⟩) hg).trans c2
      obtain ⟨q0, q1⟩ := Beh.two px
      have HH : ∀ t : Beh wr, Hid (Calls Try.prog 47 #[pv k, pv p] t.wd fun e w'' => e = .returned (.bool (inP p (k, v))) ∧ ∃ t' : Beh wr, w'' = t'.wd) := fun t => Calls.beh (insideR_any _ hek HP.out)
      unfold pv at HH
      have HBR := hid hb
      have HOW := hid hown
      have HN5 : Hid ((inL (L.take j) p).length ≤ n) := by have := inL_len L p j; have := HN.out; unfold Hid; omega
      cases hk : inP p (k, v) with
      | false =>
        rw [hk] at HH
        have HRS : Hid (inL (L.take (j + 1)) p = inL (L.take j) p) := inL_no HE.out hk
        clear hk hrr hb hown px he hg hek hrb c0 c1 c2 d2
        go_upto_region 7 with fail
        refine wp_region_beh (by kernel_rfl) (by kernel_rfl) ?_
        repeat (go_big_quiet_step (first | (go_at_call 47; exact (HH _).out) | fail))
        refine wpQuiet_nil ?_
        rintro _ ⟨t, rfl⟩
        have HB2 : Hid (Below w4.heap.size w4 t.wd) := HBR.out.trans (t.ok.mono HBR.out.size)
        have hO2 := HOW.out.below t.ok
        rw [← HRS.out] at hO2
        have HO2 := hid hO2
        clear hO2
        clear t0 t1 d0 d1 q0 q1 HH
        go_wp2_with fail
        go_roundw
        case rel => exact ⟨j + 1, by go_num, by omega, HO2.out, HB2.out⟩
        case measure => simp [intOf]; omega
      | true =>
        rw [hk] at HH
        have HRS : Hid (inL (L.take (j + 1)) p = inL (L.take j) p ++ [(k, v)]) := inL_yes HE.out hk
        clear hk hrr hb hown px he hg hek hrb c0 c1 c2
        go_upto_region 7 with fail
        refine wp_region_beh (by kernel_rfl) (by kernel_rfl) ?_
        repeat (go_big_quiet_step (first | (go_at_call 47; exact (HH _).out) | fail))
        refine wpQuiet_nil ?_
        rintro _ ⟨t, rfl⟩
        obtain ⟨w5, HW5⟩ : ∃ w5, Hid (w5 = t.wd) := ⟨_, rfl⟩
        have HB5 : Hid (Below w4.heap.size w4 w5) := by rw [HW5.out]; exact HBR.out.trans (t.ok.mono HBR.out.size)
        have HO5 := hid (HOW.out.below t.ok)
        rw [← HW5.out] at HO5
        have c0 := d0 t
        have c1 := d1 t
        have c2 := d2 t
        have t2 := t1 t
        rw [← HW5.out] at c0 c1 c2 t2
        rw [← HW5.out]
        have hl2 := HN5.out
        clear t0 t1 d0 d1 d2 q0 q1 HH
        go_wp2_with (at_builtin; refine wpList_append_own _ rfl _ _ 54 rfl w4.heap.size 71 i0 (.agg #[.int .u32 0, .int .i64 0, .int .i64 0]) 3 24 (by kernel_rfl) HI.out hz0 hz1 hz2 rfl (by decide) _ _ _ rfl (HO5.out.alloc _) ⟨w5.heap.size, 0, none⟩ 1 1 [.int .u32 (k.x : Int), .int .i64 (k.n : Int), .int .i64 v] rfl rfl ?aa1 ?aa2 ?aa3 ?aa4 ?aa5 ?_)
        case aa1 => exact three_at rfl _ _ _ _
        case aa2 => intro u hu; simp at hu; rcases hu with rfl | rfl | rfl <;> rfl
        case aa3 => unfold maxLen; omega
        case aa4 => omega
        case aa5 => have := HB5.out.size; simp; omega
        intro v6 w6 hown6 hgrow _
        rw [ecs_snoc] at hown6
        have HO6 : Hid (OwnE w6 w4.heap.size v6 (inL (L.take (j + 1)) p)) := by rw [HRS.out]; unfold Hid OwnE; rw [List.length_append]; exact hown6
        have HB6 : Hid (Below w4.heap.size w4 w6) := (HB5.out.alloc HB5.out.size _).grown hgrow (by have := HB5.out.size; simp; omega) (fun k hk => (HO5.out.lt k hk).1)
        clear hown6 hgrow
        go_wp2_with fail
        go_roundw
        case rel => exact ⟨j + 1, by go_num, by omega, HO6.out, HB6.out⟩
        case measure => simp [intOf]; omega
    · have hjn' : j = n := by omega
      subst hjn'
      have b1 : ¬ (j : Int) < (j : Int) := by omega
      have HBW : Hid (Below w.heap.size w wr) := HB4.out.trans (hb.mono HB4.out.size)
      rw [HN.out, List.take_length] at hown
      have HFO : Hid (OwnE wr w.heap.size _ (inL L p)) := hown.base HB4.out.size
      obtain ⟨ao2, n2, cap2, rfl, HN2, _, _⟩ := hown.shape
      clear hrr hb hown px
      go_wp2_with fail
      go_ret
      exact ⟨⟨_, rfl, HFO.out⟩, HBW.out⟩

theorem allR_any {rb : Nat} {v : Value} {L : List (K × Int)} (w : World) (hR : RefAt w rb v L) (hlen : L.length ≤ 4000000000000) :
    Calls Try.prog 32 #[.pointer (some ⟨rb, 0, none⟩)] w fun e w' => (∃ v', e = .returned v' ∧ OwnE w' w.heap.size v' L) ∧ Below w.heap.size w w' := by
  obtain ⟨i0, hi0, hz0, hz1, hz2⟩ := info_parts infoE
  have HI : Hid (Try.prog.info? 71 = some i0) := hi0
  have t0 : w.cell? ⟨rb, 0, none⟩ = some v := by rw [cell_of_row _ _ _ _ _ _ hR.1]; rfl
  have hO := hR.2.1
  rcases hO.2 with ⟨hv, hn⟩ | ⟨g, cap, cur, hv, hb', hg, hnc, hcm, hcs, htake⟩
  · subst hv
    have HFO : Hid (OwnE w w.heap.size (.slice none 0 0) L) := by
      have : L = [] := List.eq_nil_of_length_eq_zero hn
      rw [this]; exact World.ownsRow_nil _ _ _ _
    clear hO hR hi0
    go_enter Try.func32, Try.ntmps32
    go_wp2_with fail
    go_ret
    exact ⟨⟨_, rfl, HFO.out⟩, Below.refl _ _⟩
  · subst hv
    have HC : Hid (∀ j u, (ecs L)[j]? = some u → w.cell? ((⟨g, 0, none⟩ : Addr).add j) = some u) := fun j u hu => by
      have hlt : j < L.length * 3 := by rw [← ecs_len]; exact (List.getElem?_eq_some_iff.1 hu).1
      rw [plain_at, hO.cellAt j hlt]
      exact hu
    have H1 : Hid (∀ u ∈ ecs L, u.oneCell' = true) := fun u hu => by
      obtain ⟨e, _, he⟩ := List.mem_flatMap.1 hu
      simp [ec] at he
      rcases he with rfl | rfl | rfl <;> rfl
    have HL : Hid ((ecs L).length = L.length * 3) := ecs_len L
    have HLE := hid hlen
    obtain ⟨n, HN⟩ : ∃ n, Hid (n = L.length) := ⟨_, rfl⟩
    rw [← HN.out] at t0 HL HLE
    have hn4 := HLE.out
    clear hO hR hi0 hb' hg hnc hcm hcs htake hlen
    go_enter Try.func32, Try.ntmps32
    go_wp2_with (at_builtin; refine wpList_append_own _ rfl _ _ 54 rfl w.heap.size 71 i0 (.agg #[.int .u32 0, .int .i64 0, .int .i64 0]) 3 24 (by kernel_rfl) HI.out hz0 hz1 hz2 rfl (by decide) (.slice none 0 0) 0 [] rfl (World.ownsRow_nil _ _ _ _) ⟨g, 0, none⟩ n cap (ecs L) rfl HL.out HC.out H1.out ?aa3 ?aa4 ?aa5 ?_)
    case aa3 => unfold maxLen; omega
    case aa4 => omega
    case aa5 => exact Nat.le_refl _
    intro v6 w6 hown6 hgrow _
    rw [HN.out] at hown6
    have HO6 : Hid (OwnE w6 w.heap.size v6 L) := hown6
    have HB6 : Hid (Below w.heap.size w w6) := ⟨hgrow.os, hgrow.tape, hgrow.output, hgrow.size, fun j hj => hgrow.block j hj (by simp [Value.ownBlock])⟩
    obtain ⟨ao2, n2, cap2, rfl, _, _, _⟩ := HO6.out.shape
    clear hown6 hgrow
    go_wp2_with fail
    go_ret
    exact ⟨⟨_, rfl, HO6.out⟩, HB6.out⟩
end Go.Proofs.Ytmnafocmbcgdiac

/-
  weftlaw8.walks.
-/
namespace Go.Proofs.Ytmnafocmbcgdiac
open Go.ChangeShapes Go.WideShapes Go.ChangeAt Go.RowKit Go.Shelf Tri N
attribute [local go_sem] Oper.semAt_some
set_option maxHeartbeats 16000000
set_option maxRecDepth 100000

/-- What walks has laid. -/
structure WkB (w V : World) (bw pbx tbx tb x : Nat) (y : Int) (m : MT) (vw : Value) (E : List (K × Int)) (oc : Array Value) : Prop where
  bel : Below w.heap.size w V
  ob : V.heap[w.heap.size]? = some (.cells oc 39)
  rs : V.heap[w.heap.size + 1]? = some (.cells #[.bool false] 4)
  wt : V.heap[bw]? = some (.cells #[vw] 54)
  sq : SeqB V (fun b => b = tb) pbx tbx tb x y m
  en : OwnE V w.heap.size vw E

theorem WkB.below {w V W : World} {bw pbx tbx tb x : Nat} {y : Int} {m : MT} {vw : Value} {E : List (K × Int)} {oc : Array Value} (h : WkB w V bw pbx tbx tb x y m vw E oc) (hb : Below V.heap.size V W) : WkB w W bw pbx tbx tb x y m vw E oc :=
  ⟨h.bel.trans (hb.mono h.bel.size), below_keeps hb h.ob (Array.getElem?_eq_some_iff.1 h.ob).1, below_keeps hb h.rs (Array.getElem?_eq_some_iff.1 h.rs).1, below_keeps hb h.wt (Array.getElem?_eq_some_iff.1 h.wt).1, h.sq.below hb, h.en.below hb⟩

theorem eq_seq (f : FuncId) (a b : Array Value) (u : World) : (binOp .eql 74 (.func (.func f) a b) .nilFunc).run Try.prog u = .ok (.bool false) u := by
  kernel_rfl

theorem ex_len {o : Oper} {a : Act} {w : World} (t : Nat) (ao : Option Addr) (n c : Nat) (ho : o.op = .call { callee := .builtin .len, args := #[.tmp t], argTypes := #[54] }) (hx : a.eval (.tmp t) = .slice ao n c) : (execOp a.eval o).run Try.prog w = .ok (.value (.int .i64 (n : Int))) w := by
  have hx' : a.tmps[t]?.getD undef = .slice ao n c := by simpa [Act.eval] using hx
  simp only [execOp, ho]
  simp [hx', go_sem]
theorem ex_geq {o : Oper} {a : Act} {w : World} (x y : Operand) (i j : Int) (b : Bool) (ho : o.op = .binOp .geq 3 x y 3) (hx : a.eval x = .int .i64 i) (hy : a.eval y = .int .i64 j) (hb : decide (j ≤ i) = b) : (execOp a.eval o).run Try.prog w = .ok (.value (.bool b)) w := by
  simp only [execOp, ho, hx, hy]
  simp [go_sem, eqGuard, ← hb]
theorem ex_neqK {o : Oper} {a : Act} {w : World} (x y : Operand) (ek : K) (ho : o.op = .binOp .neq 37 x y 37) (hx : a.eval x = .agg #[.int .u32 (ek.x : Int), .int .i64 (ek.n : Int)]) (hy : a.eval y = .agg #[.int .u32 (ek.x : Int), .int .i64 (ek.n : Int)]) : (execOp a.eval o).run Try.prog w = .ok (.value (.bool false)) w := by
  simp only [execOp, ho, hx, hy]
  simp [go_sem, eqGuard]
theorem ex_neqI {o : Oper} {a : Act} {w : World} (x y : Operand) (i : Int) (ho : o.op = .binOp .neq 3 x y 3) (hx : a.eval x = .int .i64 i) (hy : a.eval y = .int .i64 i) : (execOp a.eval o).run Try.prog w = .ok (.value (.bool false)) w := by
  simp only [execOp, ho, hx, hy]
  simp [go_sem, eqGuard]
theorem ex_pickF {o : Oper} {a : Act} {w : World} (x y : Operand) (z : Value) (ho : o.op = .pick x (.const (.bool true)) y) (hx : a.eval x = .bool false) (hy : a.eval y = z) : (execOp a.eval o).run Try.prog w = .ok (.value z) w := by
  simp only [execOp, ho, hx, hy]
  simp [go_sem]

theorem walks_any {w : World} {tb rb x0 A : Nat} {k s y0 a : Int} {v : Value} {t : Tr} {L : List (K × Int)} (hD : Duo w tb rb v t L) (hx : x0 < 4294967296) (hlen : L.length ≤ 4000000000000) :
    Calls Try.prog 21 #[.pointer (some ⟨tb, 0, none⟩), .pointer (some ⟨rb, 0, none⟩), .agg (oCells k s x0 y0 A a)] w fun e w' => e = .returned (.bool true) ∧ Below w.heap.size w w' := by
  have hE : L = ents t := Same.eq hD.same hD.ris hD.tr.wf
  obtain ⟨m, hrow, hmt, hL⟩ := hD.tr.tree
  have HWF : Hid (WF top.x (top.x + top.s) m.tr) := by unfold Hid; rw [hmt]; exact hD.tr.wf
  have HNM : Hid (nodes m.tr ≤ 10000000000) := by
    have h := WF_nodes HWF.out
    rw [show top.x = 0 from rfl, top_s] at h
    unfold Hid; omega
  rw [← hmt] at hE
  obtain ⟨w1, HW1⟩ : ∃ w1, Hid (w1 = (w.alloc (.cells (oCells k s x0 y0 A a) 39)).alloc (.cells #[.bool false] 4)) := ⟨_, rfl⟩
  have hb1 : Below w.heap.size w w1 := by rw [HW1.out]; exact ((Below.refl _ _).alloc (Nat.le_refl _) _).alloc (by simp) _
  have hs1 : w1.heap.size = w.heap.size + 2 := by rw [HW1.out]; simp
  have ro : w1.heap[w.heap.size]? = some (.cells (oCells k s x0 y0 A a) 39) := by rw [HW1.out, Below.heap_alloc _ _ _ (by simp)]; exact heap_alloc_new w _
  have rr : w1.heap[w.heap.size + 1]? = some (.cells #[.bool false] 4) := by
    have h := heap_alloc_new (w.alloc (.cells (oCells k s x0 y0 A a) 39)) (.cells #[.bool false] 4)
    rw [World.size_alloc] at h
    rw [HW1.out]; exact h
  obtain ⟨w2, HW2⟩ : ∃ w2, Hid (w2 = (w1.alloc (.cells #[.pointer (some ⟨tb, 0, none⟩)] 26)).alloc (.cells #[.int .u32 ((0 : Nat) : Int), .int .i64 0] 37)) := ⟨_, rfl⟩
  have hb2 : Below w1.heap.size w1 w2 := by rw [HW2.out]; exact ((Below.refl _ _).alloc (Nat.le_refl _) _).alloc (by simp) _
  have ht2 : w2.heap[w1.heap.size]? = some (.cells #[.pointer (some ⟨tb, 0, none⟩)] 26) := by rw [HW2.out, Below.heap_alloc _ _ _ (by simp)]; exact heap_alloc_new w1 _
  have hp2 : w2.heap[w1.heap.size + 1]? = some (.cells #[.int .u32 ((0 : Nat) : Int), .int .i64 0] 37) := by
    have h := heap_alloc_new (w1.alloc (.cells #[.pointer (some ⟨tb, 0, none⟩)] 26)) (.cells #[.int .u32 ((0 : Nat) : Int), .int .i64 0] 37)
    rw [World.size_alloc] at h
    rw [HW2.out]; exact h
  have hb02 : Below w.heap.size w w2 := hb1.trans (hb2.mono hb1.size)
  have HSQ2 : Hid (SeqB w2 (fun b => b = tb) (w1.heap.size + 1) w1.heap.size tb 0 0 m) := ⟨hL.below hb02, hp2, ht2, below_keeps hb02 hrow (Array.getElem?_eq_some_iff.1 hrow).1⟩
  have HA1 := hid (all_new (tb := tb) w1)
  rw [← HW2.out] at HA1
  have HA2 := hid (allR_any w2 (hD.ref.below hb02) hlen)
  have HO2 : Hid (w2.heap[w.heap.size]? = some (.cells (oCells k s x0 y0 A a) 39) ∧ w2.heap[w.heap.size + 1]? = some (.cells #[.bool false] 4)) := ⟨below_keeps hb2 ro (by omega), below_keeps hb2 rr (by omega)⟩
  have HB02 := hid hb02
  have HS1 := hid hs1
  have HX0 := hid hx
  have HLE := hid hlen
  have HEL := hid hE
  have HROW := hid hrow
  have HLI := hid hL
  have HRF := hid hD.ref
  have HW1' : Hid (w1 = (w.alloc (.cells #[.int .i64 k, .int .i64 s, .int .u32 (x0 : Int), .int .i64 y0, .int .u32 (A : Int), .int .i64 a] 39)).alloc (.cells #[.bool false] 4)) := HW1.out
  unfold oCells
  clear hE hrow hL hb1 hs1 ro rr hb2 ht2 hp2 hb02 hD hx hlen hmt
  refine (callsIn_wide (n := 9)).1 ?_
  refine callsIn_of_wp_marks Try.func21 rfl trivial ?_ rfl
  refine wpIn_wide.2 ?_
  simp only [Try.ntmps21, List.size_toArray, List.length_cons, List.length_nil, Nat.reduceAdd, Nat.reduceSub, Array.replicate_succ, Array.replicate_zero, List.push_toArray, List.append_toArray, List.nil_append, List.cons_append]
  go_upto_region 1 with fail
  rw [← HW1'.out]
  go_wp2_with fail
  refine HA1.out.mono ?_
  rintro _ _ ⟨rfl, ew⟩
  obtain rfl := ew.symm
  go_wp2_with fail
  refine HA2.out.mono ?_
  rintro _ w3 ⟨⟨v3, rfl, ho3⟩, hb3⟩
  obtain ⟨ao3, n3, cap3, rfl, _, _, _⟩ := ho3.shape
  obtain ⟨w4, HW4⟩ : ∃ w4, Hid (w4 = w3.alloc (.cells #[.slice ao3 n3 cap3] 54)) := ⟨_, rfl⟩
  have hb4 : Below w3.heap.size w3 w4 := by rw [HW4.out]; exact (Below.refl _ _).alloc (Nat.le_refl _) _
  have hb24 : Below w2.heap.size w2 w4 := hb3.trans (hb4.mono hb3.size)
  obtain ⟨bw, HBW⟩ : ∃ bw, Hid (bw = w3.heap.size) := ⟨_, rfl⟩
  have HBG : Hid (w.heap.size ≤ bw) := by unfold Hid; rw [HBW.out]; exact Nat.le_trans HB02.out.size hb3.size
  have rw4 : w4.heap[bw]? = some (.cells #[.slice ao3 n3 cap3] 54) := by rw [HW4.out, HBW.out]; exact heap_alloc_new w3 _
  have HK4 : Hid (WkB w w4 bw (w1.heap.size + 1) w1.heap.size tb 0 0 m (.slice ao3 n3 cap3) (entsIn (ents m.tr) 0 0) (oCells k s x0 y0 A a)) := by
    refine ⟨HB02.out.trans (hb24.mono HB02.out.size), below_keeps hb24 HO2.out.1 (Array.getElem?_eq_some_iff.1 HO2.out.1).1, below_keeps hb24 HO2.out.2 (Array.getElem?_eq_some_iff.1 HO2.out.2).1, rw4, HSQ2.out.below hb24, ?_⟩
    rw [entsIn_all HWF.out, ← HEL.out]
    exact (ho3.below hb4).base HB02.out.size
  have x00 : w4.cell? ⟨w.heap.size, 0, none⟩ = some (.int .i64 k) := by rw [cell_of_row _ _ _ _ _ _ HK4.out.ob]; rfl
  clear ho3 hb3 hb4 hb24 rw4 HA1 HA2
  go_upto_region 3 with fail
  rw [← HW4.out, ← HBW.out]
  go_upto_if 20 with fail
  go_cut [7] from 14 (fun sq V => ∃ (pbx tbx x : Nat) (y : Int) (vw : Value), sq = .func (.func 44) #[] #[.pointer (some ⟨pbx, 0, none⟩), .pointer (some ⟨tbx, 0, none⟩)] ∧ Hid (x < 4294967296) ∧ Hid (WkB w V bw pbx tbx tb x y m vw (entsIn (ents m.tr) x y) (oCells k s x0 y0 A a)))
  case first =>
    by_cases h6 : k = 6
    · have z6 : (k == 6) = true := by simp [h6]
      clear h6
      obtain ⟨w5, HW5⟩ : ∃ w5, Hid (w5 = (w4.alloc (.cells #[.pointer (some ⟨tb, 0, none⟩)] 26)).alloc (.cells #[.int .u32 (x0 : Int), .int .i64 y0] 37)) := ⟨_, rfl⟩
      have hb5 : Below w4.heap.size w4 w5 := by rw [HW5.out]; exact ((Below.refl _ _).alloc (Nat.le_refl _) _).alloc (by simp) _
      have ht5 : w5.heap[w4.heap.size]? = some (.cells #[.pointer (some ⟨tb, 0, none⟩)] 26) := by rw [HW5.out, Below.heap_alloc _ _ _ (by simp)]; exact heap_alloc_new w4 _
      have hp5 : w5.heap[w4.heap.size + 1]? = some (.cells #[.int .u32 (x0 : Int), .int .i64 y0] 37) := by
        have h := heap_alloc_new (w4.alloc (.cells #[.pointer (some ⟨tb, 0, none⟩)] 26)) (.cells #[.int .u32 (x0 : Int), .int .i64 y0] 37)
        rw [World.size_alloc] at h
        rw [HW5.out]; exact h
      have hwb4 := HK4.out
      have hk5 := hwb4.below hb5
      have HK5 := hid hk5
      have HSQ5 : Hid (SeqB w5 (fun b => b = tb) (w4.heap.size + 1) w4.heap.size tb x0 y0 m) := ⟨hk5.sq.ls, hp5, ht5, hk5.sq.rt⟩
      have HN1 := hid (within_new (tb := tb) (x := x0) (y := y0) w4)
      rw [← HW5.out] at HN1
      have x2 : w4.cell? ⟨w.heap.size, 2, none⟩ = some (.int .u32 (x0 : Int)) := by rw [cell_of_row _ _ _ _ _ _ hwb4.ob]; rfl
      have x3 : w4.cell? ⟨w.heap.size, 3, none⟩ = some (.int .i64 y0) := by rw [cell_of_row _ _ _ _ _ _ hwb4.ob]; rfl
      have u2 : w5.cell? ⟨w.heap.size, 2, none⟩ = some (.int .u32 (x0 : Int)) := by rw [cell_of_row _ _ _ _ _ _ hk5.ob]; rfl
      have u3 : w5.cell? ⟨w.heap.size, 3, none⟩ = some (.int .i64 y0) := by rw [cell_of_row _ _ _ _ _ _ hk5.ob]; rfl
      have HN2 : Hid (Calls Try.prog 34 #[.pointer (some ⟨rb, 0, none⟩), qv x0 y0] w5 fun e w' => (∃ v', e = .returned v' ∧ OwnE w' w.heap.size v' (entsIn (ents m.tr) x0 y0)) ∧ Below w5.heap.size w5 w') := by
        have hR5 := HRF.out.below hk5.bel
        rcases bad_or (y := y0) HX0.out with hb | ⟨q, hq, rfl, rfl⟩
        · refine (withinR_bad w5 HX0.out hb).mono ?_
          rintro _ w6 ⟨rfl, hb6⟩
          refine ⟨⟨_, rfl, ?_⟩, hb6⟩
          unfold entsIn
          rw [valB_bad hb]
          exact World.ownsRow_nil _ _ _ _
        · refine (withinR_ok q w5 hR5 hq HLE.out).mono ?_
          rintro _ w6 ⟨⟨v', rfl, ho⟩, hb6⟩
          refine ⟨⟨_, rfl, ?_⟩, hb6⟩
          unfold entsIn
          rw [valB_ok hq, ← HEL.out]
          exact ho.base hk5.bel.size
      unfold qv at HN1 HN2
      clear hb5 ht5 hp5 hwb4 hk5 x00
      go_wp2_with fail
      refine HN1.out.mono ?_
      rintro _ _ ⟨rfl, ew⟩
      obtain rfl := ew.symm
      clear x2 x3
      have wtf : ∀ W, Below w5.heap.size w5 W → W.frozen? ⟨bw, 0, none⟩ = false ∧ W.cell? ⟨bw, 0, none⟩ = some (.slice ao3 n3 cap3) := fun W hW => by
        have h := (HK5.out.below hW).wt
        exact ⟨frozen_of_row _ _ _ _ _ h, by rw [cell_of_row _ _ _ _ _ _ h]; rfl⟩
      have WTF := hid wtf
      clear wtf
      go_wp2_with fail
      refine HN2.out.mono ?_
      rintro _ w6 ⟨⟨v6, rfl, ho6⟩, hb6⟩
      obtain ⟨ao6, n6, cap6, rfl, _, _, _⟩ := ho6.shape
      obtain ⟨f6, c6⟩ := WTF.out w6 hb6
      obtain ⟨w7, HW7⟩ : ∃ w7, Hid (w7 = w6.setCell ⟨bw, 0, none⟩ (.slice ao6 n6 cap6)) := ⟨_, rfl⟩
      have HK7 : Hid (WkB w w7 bw (w4.heap.size + 1) w4.heap.size tb x0 y0 m (.slice ao6 n6 cap6) (entsIn (ents m.tr) x0 y0) (oCells k s x0 y0 A a)) := by
        have h6 := HK5.out.below hb6
        have hs6 := HSQ5.out.below hb6
        have bt : But bw w6 w7 := by rw [HW7.out]; exact But.set _ _ _ _
        have hge : w.heap.size ≤ bw := HBG.out
        have kne : ∀ {b : Nat} {cs : Array Value} {t : TypeId}, w6.heap[b]? = some (.cells cs t) → t ≠ 54 → w7.heap[b]? = some (.cells cs t) := fun hb' hne => (bt.block _ (Array.getElem?_eq_some_iff.1 hb').1 (kinds_ne hb' h6.wt hne)).trans hb'
        have nt : NoTree w6 (fun b => b = bw) := fun b hb => by subst hb; exact kind_no h6.wt (by decide) (by decide)
        refine ⟨bt.below h6.bel h6.bel.size hge, kne h6.ob (by decide), kne h6.rs (by decide), ?_, ⟨hs6.ls.chgT nt (Chg.of_but bt rfl), kne hs6.pb (by decide), kne hs6.tx (by decide), kne hs6.rt (by decide)⟩, ?_⟩
        · rw [HW7.out]; exact set_row h6.wt
        · refine ho6.chg (Z := fun b => b = bw) (fun b hb e => ?_) (Chg.of_but bt rfl)
          obtain ⟨cs, hk⟩ := ho6.kind hb
          exact kinds_ne hk h6.wt (by decide) e
      clear ho6 hb6
      go_wp2_with fail
      rw [← HW7.out]
      go_meet
      case rel => exact ⟨_, _, _, _, _, rfl, HX0, HK7⟩
    · have z6 : (k == 6) = false := by simp [h6]
      clear h6
      go_wp2_with fail
      go_meet
      case rel => exact ⟨_, _, _, _, _, rfl, by unfold Hid; omega, HK4⟩
  case rest =>
    obtain ⟨pbx, tbx, x, y, vw, rfl, HX, HKV⟩ := hcut
    rename World => V
    clear HK4 HSQ2 HO2 x00
    obtain ⟨V0, HV0⟩ : ∃ V0, Hid (V0 = V.alloc (.cells #[.int .i64 0] 3)) := ⟨_, rfl⟩
    have hbV : Below V.heap.size V V0 := by rw [HV0.out]; exact (Below.refl _ _).alloc (Nat.le_refl _) _
    have HKV0 := hid (HKV.out.below hbV)
    obtain ⟨rbx0, Hrbx0⟩ : ∃ q, Hid (q = V.heap.size) := ⟨_, rfl⟩
    have RR0 : Hid (V0.heap[rbx0]? = some (.cells #[.int .i64 0] 3)) := by unfold Hid; rw [HV0.out, Hrbx0.out]; exact heap_alloc_new V _
    have HSZ0 : Hid (w.heap.size + 2 ≤ V0.heap.size) := by have h := (Array.getElem?_eq_some_iff.1 HKV0.out.rs).1; unfold Hid; omega
    clear hbV
    have hqf := eq_seq 44 #[] #[.pointer (some ⟨pbx, 0, none⟩), .pointer (some ⟨tbx, 0, none⟩)]
    go_upto_region 9 with fail
    clear hqf
    rw [← HV0.out, ← Hrbx0.out]
    refine wp_loop_rounds 6 ?_
    rw [rounds_succ]
    have q0 : V0.cell? ⟨rbx0, 0, none⟩ = some (.int .i64 0) := by rw [cell_of_row _ _ _ _ _ _ RR0.out]; rfl
    obtain ⟨U0, HU0⟩ : ∃ U0, Hid (U0 = (V0.alloc (.cells #[.int .i64 0] 3)).alloc (.cells #[.bool false] 4)) := ⟨_, rfl⟩
    have HSU0 : Hid (U0.heap.size = V0.heap.size + 2) := by unfold Hid; rw [HU0.out]; simp
    have HBU0 : Hid (Below V0.heap.size V0 U0) := by rw [HU0.out]; exact ((Below.refl _ _).alloc (Nat.le_refl _) _).alloc (by simp) _
    have RNU0 : Hid (U0.heap[V0.heap.size]? = some (.cells #[.int .i64 ((0 : Nat) : Int)] 3)) := by
      unfold Hid; rw [HU0.out, Below.heap_alloc _ _ _ (by simp)]; exact heap_alloc_new V0 _
    have RLU0 : Hid (U0.heap[V0.heap.size + 1]? = some (.cells #[.bool false] 4)) := by
      have h := heap_alloc_new (V0.alloc (.cells #[.int .i64 0] 3)) (.cells #[.bool false] 4)
      rw [World.size_alloc] at h
      unfold Hid; rw [HU0.out]; exact h
    go_upto_region 13 with fail
    rw [← HU0.out]
    go_wp2_with fail
    refine wpIn_wide.1 (wpIn_givesU (β := Nat) (n := 9) (F := Fence.wide) rfl (by omega) (gf := 44) (lb := #[.pointer (some ⟨pbx, 0, none⟩), .pointer (some ⟨tbx, 0, none⟩)]) rfl trivial (enters_of Try.func44 (by kernel_rfl) rfl)
      (seq_gives 8 (by omega) (fun b => b = tb) pbx tbx tb x y m HX.out HWF.out HNM.out) (fun _ => rfl)
      (fun i W => U0.heap.size ≤ W.heap.size ∧ Below V0.heap.size V0 W ∧ W.heap[V0.heap.size]? = some (.cells #[.int .i64 (i : Int)] 3) ∧ W.heap[V0.heap.size + 1]? = some (.cells #[.bool false] 4))
      (fun c W => c = .exit 2 ∧ U0.heap.size ≤ W.heap.size ∧ Below V0.heap.size V0 W ∧ (∃ i : Int, W.heap[V0.heap.size]? = some (.cells #[.int .i64 i] 3)) ∧ W.heap[V0.heap.size + 1]? = some (.cells #[.bool true] 4)) ?hI0 ?hIx0 ?hF0 ?h00
      (fun e b tt => (((tt.setIfInBounds 36 (pv e.1)).setIfInBounds 37 (.int .i64 e.2)).setIfInBounds 12 (.pointer (some ⟨b, 0, none⟩))).setIfInBounds 13 (.int .i64 e.2)) (fun e b W => U0.heap.size ≤ b ∧ W.heap[b]? = some (.cells #[.int .u32 (e.1.x : Int), .int .i64 (e.1.n : Int)] 37)) ?hAy0 ?assign0 ?body0 ?done0 ?stop0)
    case hI0 =>
      refine ownN_below (fun i W hi => hi.1) ?_
      rintro i W W' ⟨i1, i2, i3, i4⟩ hb
      have hs := HSU0.out
      exact ⟨Nat.le_trans i1 hb.size, i2.trans (hb.mono (by omega)), below_keeps hb i3 (by omega), below_keeps hb i4 (by omega)⟩
    case hIx0 =>
      refine ownN_below (fun c W hi => hi.2.1) ?_
      rintro c W W' ⟨i0, i1, i2, ⟨i, i3⟩, i4⟩ hb
      have hs := HSU0.out
      exact ⟨i0, Nat.le_trans i1 hb.size, i2.trans (hb.mono (by omega)), ⟨i, below_keeps hb i3 (by omega)⟩, below_keeps hb i4 (by omega)⟩
    case hF0 =>
      rintro i W ⟨i1, i2, i3, i4⟩
      exact HKV0.out.sq.below i2
    case h00 => exact ⟨Nat.le_refl _, HBU0.out, RNU0.out, RLU0.out⟩
    case hAy0 =>
      rintro e b _ W W' row ⟨h1, h2⟩ hg hr
      refine ⟨h1, (hg.block _ (Array.getElem?_eq_some_iff.1 h2).1 (fun he => ?_)).trans h2⟩
      obtain ⟨_, o, ho, hm⟩ := hr b he.symm
      rw [h2] at ho
      cases ho
      rcases hm with hm | ⟨cs, hm⟩ | ⟨cs, hm⟩
      · cases hm
      · injection hm with _ hm; exact absurd hm (by decide)
      · injection hm with _ hm; exact absurd hm (by decide)
    case assign0 =>
      intro l i e W K hi hx hK
      obtain ⟨W2, HW2⟩ : ∃ W2, Hid (W2 = W.alloc (.cells #[.int .u32 (e.1.x : Int), .int .i64 (e.1.n : Int)] 37)) := ⟨_, rfl⟩
      have hbW : Below W.heap.size W W2 := by rw [HW2.out]; exact (Below.refl _ _).alloc (Nat.le_refl _) _
      have hrW : W2.heap[W.heap.size]? = some (.cells #[.int .u32 (e.1.x : Int), .int .i64 (e.1.n : Int)] 37) := by rw [HW2.out]; exact heap_alloc_new W _
      obtain ⟨i1, i2, i3, i4⟩ := hi
      have hs := HSU0.out
      have HK := hK W.heap.size W2 (KeepsN.of_below hbW) ⟨Nat.le_trans i1 hbW.size, i2.trans (hbW.mono i2.size), below_keeps hbW i3 (by omega), below_keeps hbW i4 (by omega)⟩ ⟨i1, hrW⟩
      unfold pv at HK ⊢
      simp only [List.setIfInBounds_toArray, List.set_cons_zero, List.set_cons_succ] at HK ⊢
      clear hK i1 i2 i3 i4 hx hbW hrW
      gi_wp2
      rw [← HW2.out]
      exact HK
    case body0 =>
      rintro l i e b W hl _ ⟨i1, i2, i3, i4⟩ ⟨j1, j2⟩ hx
      have hwb := HKV0.out.below i2
      have hs := HSU0.out
      obtain ⟨ek, ev⟩ := e
      simp only at j2
      have p0 : W.cell? ⟨b, 0, none⟩ = some (.int .u32 (ek.x : Int)) := by rw [cell_of_row _ _ _ _ _ _ j2]; rfl
      have p1 : W.cell? ⟨b, 1, none⟩ = some (.int .i64 (ek.n : Int)) := by rw [cell_of_row _ _ _ _ _ _ j2]; rfl
      have n0 : W.cell? ⟨V0.heap.size, 0, none⟩ = some (.int .i64 (i : Int)) := by rw [cell_of_row _ _ _ _ _ _ i3]; rfl
      have nf : W.frozen? ⟨V0.heap.size, 0, none⟩ = false := frozen_of_row _ _ _ _ _ i3
      have l0 : W.cell? ⟨V0.heap.size + 1, 0, none⟩ = some (.bool false) := by rw [cell_of_row _ _ _ _ _ _ i4]; rfl
      have lf : W.frozen? ⟨V0.heap.size + 1, 0, none⟩ = false := frozen_of_row _ _ _ _ _ i4
      have r0 : W.cell? ⟨rbx0, 0, none⟩ = some (.int .i64 0) := by rw [cell_of_row _ _ _ _ _ _ (below_keeps i2 RR0.out (Array.getElem?_eq_some_iff.1 RR0.out).1)]; rfl
      have o5 : W.cell? ⟨w.heap.size, 5, none⟩ = some (.int .i64 a) := by rw [cell_of_row _ _ _ _ _ _ hwb.ob]; rfl
      obtain ⟨ao, nE, cap, hvw, HNE, hnc, hcm⟩ := hwb.en.shape
      have hin : i < nE := by have h1 := (List.getElem?_eq_some_iff.1 hx).1; have h2 := HNE.out; omega
      have hwt := hwb.wt
      have hen := hwb.en
      rw [hvw] at hwt hen
      have wt0 : W.cell? ⟨bw, 0, none⟩ = some (.slice ao nE cap) := by rw [cell_of_row _ _ _ _ _ _ hwt]; rfl
      obtain ⟨g, f, hao, hg, hf, c0, c1, c2⟩ := hen.at i hin
      rw [hx] at hf
      obtain rfl := Option.some.inj hf
      subst hao
      simp only at c0 c1 c2
      have b1 : ¬ ((nE : Int) ≤ (i : Int)) := by omega
      have b2 : (i : Int) < (nE : Int) := by omega
      have b3 : (0 : Int) ≤ (i : Int) := by omega
      have hq : ∀ u : World, (Op.equalIn 10000 37 (.agg #[.int .u32 (ek.x : Int), .int .i64 (ek.n : Int)]) (.agg #[.int .u32 (ek.x : Int), .int .i64 (ek.n : Int)])).run Try.prog u = .ok true u := fun u => (eqK ek ek u).trans (by simp)
      unfold maxLen at hcm
      have hmax : (i : Int) ≤ 9223372036854775806 := by omega
      have HFIN : Hid (∀ Wc, Wc.heap = (W.setCell ⟨V0.heap.size, 0, none⟩ (.int .i64 ((i : Int) + 1))).heap → Wc.os = W.os → Wc.tape = W.tape → Wc.output = W.output → KeepsN U0.heap.size W Wc ∧ U0.heap.size ≤ Wc.heap.size ∧ Below V0.heap.size V0 Wc ∧ Wc.heap[V0.heap.size]? = some (.cells #[.int .i64 ((i + 1 : Nat) : Int)] 3) ∧ Wc.heap[V0.heap.size + 1]? = some (.cells #[.bool false] 4)) := fun Wc hh h1 h2 h3 => by
        have bt : But V0.heap.size W (W.setCell ⟨V0.heap.size, 0, none⟩ (.int .i64 ((i : Int) + 1))) := But.set _ _ _ _
        have hsz : W.heap.size ≤ Wc.heap.size := by rw [hh]; exact bt.size
        have hbl : ∀ j, j < W.heap.size → j ≠ V0.heap.size → Wc.heap[j]? = W.heap[j]? := fun j hj hn => by rw [hh]; exact bt.block j hj hn
        refine ⟨⟨hsz, fun j o hj ho _ => (hbl j (Array.getElem?_eq_some_iff.1 ho).1 (by omega)).trans ho⟩, Nat.le_trans i1 hsz, ⟨h1.trans i2.os, h2.trans i2.tape, h3.trans i2.output, Nat.le_trans i2.size hsz, fun j hj => (hbl j (by omega) (by omega)).trans (i2.block j hj)⟩, ?_, (hbl _ (by omega) (by omega)).trans i4⟩
        rw [hh, set_row i3]
        rfl
      have HST : Hid (∀ Wc, Wc.heap = (W.setCell ⟨V0.heap.size + 1, 0, none⟩ (.bool true)).heap → Wc.os = W.os → Wc.tape = W.tape → Wc.output = W.output → KeepsN U0.heap.size W Wc ∧ U0.heap.size ≤ Wc.heap.size ∧ Below V0.heap.size V0 Wc ∧ (∃ i : Int, Wc.heap[V0.heap.size]? = some (.cells #[.int .i64 i] 3)) ∧ Wc.heap[V0.heap.size + 1]? = some (.cells #[.bool true] 4)) := fun Wc hh h1 h2 h3 => by
        have bt : But (V0.heap.size + 1) W (W.setCell ⟨V0.heap.size + 1, 0, none⟩ (.bool true)) := But.set _ _ _ _
        have hsz : W.heap.size ≤ Wc.heap.size := by rw [hh]; exact bt.size
        have hbl : ∀ j, j < W.heap.size → j ≠ V0.heap.size + 1 → Wc.heap[j]? = W.heap[j]? := fun j hj hn => by rw [hh]; exact bt.block j hj hn
        refine ⟨⟨hsz, fun j o hj ho _ => (hbl j (Array.getElem?_eq_some_iff.1 ho).1 (by omega)).trans ho⟩, Nat.le_trans i1 hsz, ⟨h1.trans i2.os, h2.trans i2.tape, h3.trans i2.output, Nat.le_trans i2.size hsz, fun j hj => (hbl j (by omega) (by omega)).trans (i2.block j hj)⟩, ⟨(i : Int), (hbl _ (by omega) (by omega)).trans i3⟩, ?_⟩
        rw [hh, set_row i4]
        rfl
      clear hwb i1 i2 i3 i4 j1 j2 hwt hen hf hx hs hg
      by_cases hstop : (i : Int) = a
      · have z1 : ((i : Int) == a) = true := by simp [hstop]
        clear hstop HFIN c0 c1 c2 hq
        simp only [pv, List.setIfInBounds_toArray, List.set_cons_zero, List.set_cons_succ]
        gi_wp2
        obtain ⟨s1, s2, s3, s4, s5⟩ := HST.out _ (by rfl) (by rfl) (by rfl) (by rfl)
        exact ⟨s1, rfl, s2, s3, s4, s5⟩
      · have z1 : ((i : Int) == a) = false := by simp [hstop]
        clear hstop HST
        simp only [pv, List.setIfInBounds_toArray, List.set_cons_zero, List.set_cons_succ]
        gi_wp2
        refine wpIn_region_guarded' 21 (fun i => 46 + i) (FL [some (.int .i64 (i : Int)), some (.slice (some ⟨g, 0, none⟩) nE cap), some (.int .i64 (nE : Int)), some (.bool false), some (.bool false), some (.agg #[.int .u32 (ek.x : Int), .int .i64 (ek.n : Int)]), some (.slice (some ⟨g, 0, none⟩) nE cap), some (.int .i64 (i : Int)), some (.pointer (some ⟨g, i * 3, none⟩)), some (.pointer (some ⟨g, i * 3, none⟩)), some (.agg #[.int .u32 (ek.x : Int), .int .i64 (ek.n : Int)]), some (.bool false), some (.bool false), some (.bool false), some (.int .i64 ev), some (.slice (some ⟨g, 0, none⟩) nE cap), some (.int .i64 (i : Int)), some (.pointer (some ⟨g, i * 3, none⟩)), some (.pointer (some ⟨g, i * 3 + 2, none⟩)), some (.int .i64 ev), some (.bool false)]) (fun u => u = W.drew) (fun _ u u' => u' = u) (by kernel_rfl) (by kernel_rfl) rfl (fun _ _ _ _ _ _ h _ _ => h) ?_ ?_
        · simp only [List.take_succ_cons, List.take_zero, N.stepsG]
          refine ⟨?_, ?_, ?_, ?_, ?_, ?_, ?_, ?_, ?_, ?_, ?_, ?_, ?_, ?_, ?_, ?_, ?_, ?_, ?_, ?_, ?_, trivial⟩
          · intro a' u vs hI hold hdep
            obtain rfl : u = W.drew := hI
            exact opAt_plain rfl (wpIn_val (fun _ h => by cases h) (ex_load _ ⟨V0.heap.size, 0, none⟩ (.tmp 10) _ rfl (hold 10 (fun j hj => low (by decide))) (load_in n0)) ⟨_, rfl, fun x hx => Option.some.inj (Option.some.inj hx), rfl, rfl⟩)
          · intro a' u vs hI hold hdep
            obtain rfl : u = W.drew := hI
            exact opAt_plain rfl (wpIn_val (fun _ h => by cases h) (ex_load _ ⟨bw, 0, none⟩ (.tmp 8) _ rfl (hold 8 (fun j hj => low (by decide))) (load_sE wt0)) ⟨_, rfl, fun x hx => Option.some.inj (Option.some.inj hx), rfl, rfl⟩)
          · intro a' u vs hI hold hdep
            obtain rfl : u = W.drew := hI
            have h1 := hdep ⟨1, .data⟩ (by simp) rfl (by decide)
            have e1 := h1.1.trans (h1.2 _ rfl)
            exact opAt_plain rfl (wpIn_val (fun _ h => by cases h) (ex_len 47 _ _ _ rfl e1) ⟨_, rfl, fun x hx => Option.some.inj (Option.some.inj hx), rfl, rfl⟩)
          · intro a' u vs hI hold hdep
            obtain rfl : u = W.drew := hI
            have h0 := hdep ⟨0, .data⟩ (by simp) rfl (by decide)
            have e0 := h0.1.trans (h0.2 _ rfl)
            have h2 := hdep ⟨2, .data⟩ (by simp) rfl (by decide)
            have e2 := h2.1.trans (h2.2 _ rfl)
            exact opAt_plain rfl (wpIn_val (fun _ h => by cases h) (ex_geq (.tmp 46) (.tmp 48) _ _ _ rfl e0 e2 (decide_eq_false (by omega))) ⟨_, rfl, fun x hx => Option.some.inj (Option.some.inj hx), rfl, rfl⟩)
          · intro a' u vs hI hold hdep
            obtain rfl : u = W.drew := hI
            have h3 := hdep ⟨3, .data⟩ (by simp) rfl (by decide)
            have e3 := h3.1.trans (h3.2 _ rfl)
            exact opAt_plain rfl (wpIn_val (fun _ h => by cases h) (ex_move (.tmp 49) _ rfl e3) ⟨_, rfl, fun x hx => Option.some.inj (Option.some.inj hx), rfl, rfl⟩)
          · intro a' u vs hI hold hdep
            obtain rfl : u = W.drew := hI
            have hg := hdep ⟨4, .guard⟩ (by simp) rfl (by decide)
            have eg := hg.1.trans (hg.2 _ rfl)
            exact opAt_go (j := 4) (t := 50) (b := false) rfl rfl eg (wpIn_val (fun _ h => by cases h) (ex_load _ ⟨b, 0, none⟩ (.tmp 12) _ rfl (hold 12 (fun j hj => low (by decide))) (load_pre p0 p1)) ⟨_, rfl, fun x hx => Option.some.inj (Option.some.inj hx), rfl, rfl⟩)
          · intro a' u vs hI hold hdep
            obtain rfl : u = W.drew := hI
            have hg := hdep ⟨4, .guard⟩ (by simp) rfl (by decide)
            have eg := hg.1.trans (hg.2 _ rfl)
            exact opAt_go (j := 4) (t := 50) (b := false) rfl rfl eg (wpIn_val (fun _ h => by cases h) (ex_load _ ⟨bw, 0, none⟩ (.tmp 8) _ rfl (hold 8 (fun j hj => low (by decide))) (load_sE wt0)) ⟨_, rfl, fun x hx => Option.some.inj (Option.some.inj hx), rfl, rfl⟩)
          · intro a' u vs hI hold hdep
            obtain rfl : u = W.drew := hI
            have hg := hdep ⟨4, .guard⟩ (by simp) rfl (by decide)
            have eg := hg.1.trans (hg.2 _ rfl)
            exact opAt_go (j := 4) (t := 50) (b := false) rfl rfl eg (wpIn_val (fun _ h => by cases h) (ex_load _ ⟨V0.heap.size, 0, none⟩ (.tmp 10) _ rfl (hold 10 (fun j hj => low (by decide))) (load_in n0)) ⟨_, rfl, fun x hx => Option.some.inj (Option.some.inj hx), rfl, rfl⟩)
          · intro a' u vs hI hold hdep
            obtain rfl : u = W.drew := hI
            have hg := hdep ⟨4, .guard⟩ (by simp) rfl (by decide)
            have eg := hg.1.trans (hg.2 _ rfl)
            have h6 := hdep ⟨6, .data⟩ (by simp) rfl (by decide)
            have e6 := h6.1.trans (h6.2 _ rfl)
            have h7 := hdep ⟨7, .data⟩ (by simp) rfl (by decide)
            have e7 := h7.1.trans (h7.2 _ rfl)
            exact opAt_go (j := 4) (t := 50) (b := false) rfl rfl eg (wpIn_val (fun _ h => by cases h) (ex_index _ (.tmp 52) (.tmp 53) _ _ _ rfl e6 e7 (idx_en hin _)) ⟨_, rfl, fun x hx => Option.some.inj (Option.some.inj hx), rfl, rfl⟩)
          · intro a' u vs hI hold hdep
            obtain rfl : u = W.drew := hI
            have hg := hdep ⟨4, .guard⟩ (by simp) rfl (by decide)
            have eg := hg.1.trans (hg.2 _ rfl)
            have h8 := hdep ⟨8, .data⟩ (by simp) rfl (by decide)
            have e8 := h8.1.trans (h8.2 _ rfl)
            exact opAt_go (j := 4) (t := 50) (b := false) rfl rfl eg (wpIn_val (fun _ h => by cases h) (ex_field _ _ (.tmp 54) 0 _ rfl e8 (fld_rE _).1) ⟨_, rfl, fun x hx => Option.some.inj (Option.some.inj hx), rfl, rfl⟩)
          · intro a' u vs hI hold hdep
            obtain rfl : u = W.drew := hI
            have hg := hdep ⟨4, .guard⟩ (by simp) rfl (by decide)
            have eg := hg.1.trans (hg.2 _ rfl)
            have h9 := hdep ⟨9, .data⟩ (by simp) rfl (by decide)
            have e9 := h9.1.trans (h9.2 _ rfl)
            exact opAt_go (j := 4) (t := 50) (b := false) rfl rfl eg (wpIn_val (fun _ h => by cases h) (ex_load _ ⟨g, i * 3, none⟩ (.tmp 55) _ rfl e9 (load_pre c0 c1)) ⟨_, rfl, fun x hx => Option.some.inj (Option.some.inj hx), rfl, rfl⟩)
          · intro a' u vs hI hold hdep
            obtain rfl : u = W.drew := hI
            have hg := hdep ⟨4, .guard⟩ (by simp) rfl (by decide)
            have eg := hg.1.trans (hg.2 _ rfl)
            have h5 := hdep ⟨5, .data⟩ (by simp) rfl (by decide)
            have e5 := h5.1.trans (h5.2 _ rfl)
            have h10 := hdep ⟨10, .data⟩ (by simp) rfl (by decide)
            have e10 := h10.1.trans (h10.2 _ rfl)
            exact opAt_go (j := 4) (t := 50) (b := false) rfl rfl eg (wpIn_val (fun _ h => by cases h) (ex_neqK (.tmp 51) (.tmp 56) ek rfl e5 e10) ⟨_, rfl, fun x hx => Option.some.inj (Option.some.inj hx), rfl, rfl⟩)
          · intro a' u vs hI hold hdep
            obtain rfl : u = W.drew := hI
            have h4 := hdep ⟨4, .data⟩ (by simp) rfl (by decide)
            have e4 := h4.1.trans (h4.2 _ rfl)
            have h11 := hdep ⟨11, .data⟩ (by simp) rfl (by decide)
            have e11 := h11.1.trans (h11.2 _ rfl)
            exact opAt_plain rfl (wpIn_val (fun _ h => by cases h) (ex_pickF (.tmp 50) (.tmp 57) _ rfl e4 e11) ⟨_, rfl, fun x hx => Option.some.inj (Option.some.inj hx), rfl, rfl⟩)
          · intro a' u vs hI hold hdep
            obtain rfl : u = W.drew := hI
            have h12 := hdep ⟨12, .data⟩ (by simp) rfl (by decide)
            have e12 := h12.1.trans (h12.2 _ rfl)
            exact opAt_plain rfl (wpIn_val (fun _ h => by cases h) (ex_move (.tmp 58) _ rfl e12) ⟨_, rfl, fun x hx => Option.some.inj (Option.some.inj hx), rfl, rfl⟩)
          · intro a' u vs hI hold hdep
            obtain rfl : u = W.drew := hI
            have hg := hdep ⟨13, .guard⟩ (by simp) rfl (by decide)
            have eg := hg.1.trans (hg.2 _ rfl)
            exact opAt_go (j := 13) (t := 59) (b := false) rfl rfl eg (wpIn_val (fun _ h => by cases h) (ex_move (.tmp 13) _ rfl (hold 13 (fun j hj => low (by decide)))) ⟨_, rfl, fun x hx => Option.some.inj (Option.some.inj hx), rfl, rfl⟩)
          · intro a' u vs hI hold hdep
            obtain rfl : u = W.drew := hI
            have hg := hdep ⟨13, .guard⟩ (by simp) rfl (by decide)
            have eg := hg.1.trans (hg.2 _ rfl)
            exact opAt_go (j := 13) (t := 59) (b := false) rfl rfl eg (wpIn_val (fun _ h => by cases h) (ex_load _ ⟨bw, 0, none⟩ (.tmp 8) _ rfl (hold 8 (fun j hj => low (by decide))) (load_sE wt0)) ⟨_, rfl, fun x hx => Option.some.inj (Option.some.inj hx), rfl, rfl⟩)
          · intro a' u vs hI hold hdep
            obtain rfl : u = W.drew := hI
            have hg := hdep ⟨13, .guard⟩ (by simp) rfl (by decide)
            have eg := hg.1.trans (hg.2 _ rfl)
            exact opAt_go (j := 13) (t := 59) (b := false) rfl rfl eg (wpIn_val (fun _ h => by cases h) (ex_load _ ⟨V0.heap.size, 0, none⟩ (.tmp 10) _ rfl (hold 10 (fun j hj => low (by decide))) (load_in n0)) ⟨_, rfl, fun x hx => Option.some.inj (Option.some.inj hx), rfl, rfl⟩)
          · intro a' u vs hI hold hdep
            obtain rfl : u = W.drew := hI
            have hg := hdep ⟨13, .guard⟩ (by simp) rfl (by decide)
            have eg := hg.1.trans (hg.2 _ rfl)
            have h15 := hdep ⟨15, .data⟩ (by simp) rfl (by decide)
            have e15 := h15.1.trans (h15.2 _ rfl)
            have h16 := hdep ⟨16, .data⟩ (by simp) rfl (by decide)
            have e16 := h16.1.trans (h16.2 _ rfl)
            exact opAt_go (j := 13) (t := 59) (b := false) rfl rfl eg (wpIn_val (fun _ h => by cases h) (ex_index _ (.tmp 61) (.tmp 62) _ _ _ rfl e15 e16 (idx_en hin _)) ⟨_, rfl, fun x hx => Option.some.inj (Option.some.inj hx), rfl, rfl⟩)
          · intro a' u vs hI hold hdep
            obtain rfl : u = W.drew := hI
            have hg := hdep ⟨13, .guard⟩ (by simp) rfl (by decide)
            have eg := hg.1.trans (hg.2 _ rfl)
            have h17 := hdep ⟨17, .data⟩ (by simp) rfl (by decide)
            have e17 := h17.1.trans (h17.2 _ rfl)
            exact opAt_go (j := 13) (t := 59) (b := false) rfl rfl eg (wpIn_val (fun _ h => by cases h) (ex_field _ _ (.tmp 63) 1 _ rfl e17 (fld_rE _).2) ⟨_, rfl, fun x hx => Option.some.inj (Option.some.inj hx), rfl, rfl⟩)
          · intro a' u vs hI hold hdep
            obtain rfl : u = W.drew := hI
            have hg := hdep ⟨13, .guard⟩ (by simp) rfl (by decide)
            have eg := hg.1.trans (hg.2 _ rfl)
            have h18 := hdep ⟨18, .data⟩ (by simp) rfl (by decide)
            have e18 := h18.1.trans (h18.2 _ rfl)
            exact opAt_go (j := 13) (t := 59) (b := false) rfl rfl eg (wpIn_val (fun _ h => by cases h) (ex_load _ ⟨g, i * 3 + 2, none⟩ (.tmp 64) _ rfl e18 (load_in c2)) ⟨_, rfl, fun x hx => Option.some.inj (Option.some.inj hx), rfl, rfl⟩)
          · intro a' u vs hI hold hdep
            obtain rfl : u = W.drew := hI
            have hg := hdep ⟨13, .guard⟩ (by simp) rfl (by decide)
            have eg := hg.1.trans (hg.2 _ rfl)
            have h14 := hdep ⟨14, .data⟩ (by simp) rfl (by decide)
            have e14 := h14.1.trans (h14.2 _ rfl)
            have h19 := hdep ⟨19, .data⟩ (by simp) rfl (by decide)
            have e19 := h19.1.trans (h19.2 _ rfl)
            exact opAt_go (j := 13) (t := 59) (b := false) rfl rfl eg (wpIn_val (fun _ h => by cases h) (ex_neqI (.tmp 60) (.tmp 65) _ rfl e14 e19) ⟨_, rfl, fun x hx => Option.some.inj (Option.some.inj hx), rfl, rfl⟩)
        intro vs V2 hV2 hF
        subst hV2
        have f0 := hF 0 (by decide) _ rfl
        have f1 := hF 1 (by decide) _ rfl
        have f2 := hF 2 (by decide) _ rfl
        have f3 := hF 3 (by decide) _ rfl
        have f4 := hF 4 (by decide) _ rfl
        have f5 := hF 5 (by decide) _ rfl
        have f6 := hF 6 (by decide) _ rfl
        have f7 := hF 7 (by decide) _ rfl
        have f8 := hF 8 (by decide) _ rfl
        have f9 := hF 9 (by decide) _ rfl
        have f10 := hF 10 (by decide) _ rfl
        have f11 := hF 11 (by decide) _ rfl
        have f12 := hF 12 (by decide) _ rfl
        have f13 := hF 13 (by decide) _ rfl
        have f14 := hF 14 (by decide) _ rfl
        have f15 := hF 15 (by decide) _ rfl
        have f16 := hF 16 (by decide) _ rfl
        have f17 := hF 17 (by decide) _ rfl
        have f18 := hF 18 (by decide) _ rfl
        have f19 := hF 19 (by decide) _ rfl
        have f20 := hF 20 (by decide) _ rfl
        simp only [List.drop_succ_cons, List.drop_zero, puts, List.range, List.range.loop, List.foldr, Nat.reduceAdd, if_true, f0, f1, f2, f3, f4, f5, f6, f7, f8, f9, f10, f11, f12, f13, f14, f15, f16, f17, f18, f19, f20, Act.put, List.setIfInBounds_toArray, List.set_cons_zero, List.set_cons_succ]
        clear hF f0 f1 f2 f3 f4 f5 f6 f7 f8 f9 f10 f11 f12 f13 f14 f15 f16 f17 f18 f19 f20
        gi_wp2
        exact HFIN.out _ (by rfl) (by rfl) (by rfl) (by rfl)
    case done0 =>
      rintro D0 W hD ⟨i1, i2, i3, i4⟩ hK
      have hwb := HKV0.out.below i2
      have n0 : W.cell? ⟨V0.heap.size, 0, none⟩ = some (.int .i64 ((entsIn (ents m.tr) x y).length : Int)) := by rw [cell_of_row _ _ _ _ _ _ i3]; rfl
      have l0 : W.cell? ⟨V0.heap.size + 1, 0, none⟩ = some (.bool false) := by rw [cell_of_row _ _ _ _ _ _ i4]; rfl
      have r0 : W.cell? ⟨rbx0, 0, none⟩ = some (.int .i64 0) := by rw [cell_of_row _ _ _ _ _ _ (below_keeps i2 RR0.out (Array.getElem?_eq_some_iff.1 RR0.out).1)]; rfl
      obtain ⟨ao, nE, cap, hvw, HNE, hnc, hcm⟩ := hwb.en.shape
      have hwt := hwb.wt
      rw [hvw] at hwt
      have wt0 : W.cell? ⟨bw, 0, none⟩ = some (.slice ao nE cap) := by rw [cell_of_row _ _ _ _ _ _ hwt]; rfl
      rw [← HNE.out] at n0
      obtain ⟨Z0, HZ0⟩ : ∃ Z0, Hid (Z0 = W.alloc (.cells #[.int .i64 1] 3)) := ⟨_, rfl⟩
      have hbZ0 : Below W.heap.size W Z0 := by rw [HZ0.out]; exact (Below.refl _ _).alloc (Nat.le_refl _) _
      have HKZ0 := hid (hwb.below hbZ0)
      have RR1 : Hid (Z0.heap[W.heap.size]? = some (.cells #[.int .i64 1] 3)) := by rw [HZ0.out]; exact heap_alloc_new W _
      have HD0Z0 : Hid (Z0.heap[D0]? = some (.deferred (some []))) := below_keeps hbZ0 hK (Array.getElem?_eq_some_iff.1 hK).1
      have HDW0 := hid hD
      have HSW0 : Hid (w.heap.size + 2 ≤ W.heap.size) := by have h1 := (Array.getElem?_eq_some_iff.1 hwb.rs).1; unfold Hid; omega
      have HDS0 : Hid (w.heap.size + 2 ≤ D0) := by have h1 := HSZ0.out; have h2 := HSU0.out; unfold Hid; omega
      obtain ⟨rbx1, Hrbx1⟩ : ∃ q, Hid (q = W.heap.size) := ⟨_, rfl⟩
      rw [← Hrbx1.out] at RR1
      clear hwb hwt i1 i2 i3 i4 hK hD hbZ0 hvw
      go_wp2_with fail
      rw [← HZ0.out, ← Hrbx1.out]
      rw [rounds_succ]
      have q0 : Z0.cell? ⟨rbx1, 0, none⟩ = some (.int .i64 1) := by rw [cell_of_row _ _ _ _ _ _ RR1.out]; rfl
      obtain ⟨U1, HU1⟩ : ∃ U1, Hid (U1 = (Z0.alloc (.cells #[.int .i64 0] 3)).alloc (.cells #[.bool false] 4)) := ⟨_, rfl⟩
      have HSU1 : Hid (U1.heap.size = Z0.heap.size + 2) := by unfold Hid; rw [HU1.out]; simp
      have HBU1 : Hid (Below Z0.heap.size Z0 U1) := by rw [HU1.out]; exact ((Below.refl _ _).alloc (Nat.le_refl _) _).alloc (by simp) _
      have RNU1 : Hid (U1.heap[Z0.heap.size]? = some (.cells #[.int .i64 ((0 : Nat) : Int)] 3)) := by
        unfold Hid; rw [HU1.out, Below.heap_alloc _ _ _ (by simp)]; exact heap_alloc_new Z0 _
      have RLU1 : Hid (U1.heap[Z0.heap.size + 1]? = some (.cells #[.bool false] 4)) := by
        have h := heap_alloc_new (Z0.alloc (.cells #[.int .i64 0] 3)) (.cells #[.bool false] 4)
        rw [World.size_alloc] at h
        unfold Hid; rw [HU1.out]; exact h
      go_upto_region 13 with fail
      rw [← HU1.out]
      go_wp2_with fail
      refine wpIn_wide.1 (wpIn_givesU (β := Nat) (n := 9) (F := Fence.wide) rfl (by omega) (gf := 44) (lb := #[.pointer (some ⟨pbx, 0, none⟩), .pointer (some ⟨tbx, 0, none⟩)]) rfl trivial (enters_of Try.func44 (by kernel_rfl) rfl)
        (seq_gives 8 (by omega) (fun b => b = tb) pbx tbx tb x y m HX.out HWF.out HNM.out) (fun _ => rfl)
        (fun i W => U1.heap.size ≤ W.heap.size ∧ Below Z0.heap.size Z0 W ∧ W.heap[Z0.heap.size]? = some (.cells #[.int .i64 (i : Int)] 3) ∧ W.heap[Z0.heap.size + 1]? = some (.cells #[.bool false] 4))
        (fun c W => False) ?hI1 ?hIx1 ?hF1 ?h01
        (fun e b tt => (((tt.setIfInBounds 36 (pv e.1)).setIfInBounds 37 (.int .i64 e.2)).setIfInBounds 12 (.pointer (some ⟨b, 0, none⟩))).setIfInBounds 13 (.int .i64 e.2)) (fun e b W => U1.heap.size ≤ b ∧ W.heap[b]? = some (.cells #[.int .u32 (e.1.x : Int), .int .i64 (e.1.n : Int)] 37)) ?hAy1 ?assign1 ?body1 ?done1 ?stop1)
      case hI1 =>
        refine ownN_below (fun i W hi => hi.1) ?_
        rintro i W W' ⟨i1, i2, i3, i4⟩ hb
        have hs := HSU1.out
        exact ⟨Nat.le_trans i1 hb.size, i2.trans (hb.mono (by omega)), below_keeps hb i3 (by omega), below_keeps hb i4 (by omega)⟩
      case hIx1 =>
        rintro c W W' row h hg hr
        exact h.elim
      case hF1 =>
        rintro i W ⟨i1, i2, i3, i4⟩
        exact HKZ0.out.sq.below i2
      case h01 => exact ⟨Nat.le_refl _, HBU1.out, RNU1.out, RLU1.out⟩
      case hAy1 =>
        rintro e b _ W W' row ⟨h1, h2⟩ hg hr
        refine ⟨h1, (hg.block _ (Array.getElem?_eq_some_iff.1 h2).1 (fun he => ?_)).trans h2⟩
        obtain ⟨_, o, ho, hm⟩ := hr b he.symm
        rw [h2] at ho
        cases ho
        rcases hm with hm | ⟨cs, hm⟩ | ⟨cs, hm⟩
        · cases hm
        · injection hm with _ hm; exact absurd hm (by decide)
        · injection hm with _ hm; exact absurd hm (by decide)
      case assign1 =>
        intro l i e W K hi hx hK
        obtain ⟨W2, HW2⟩ : ∃ W2, Hid (W2 = W.alloc (.cells #[.int .u32 (e.1.x : Int), .int .i64 (e.1.n : Int)] 37)) := ⟨_, rfl⟩
        have hbW : Below W.heap.size W W2 := by rw [HW2.out]; exact (Below.refl _ _).alloc (Nat.le_refl _) _
        have hrW : W2.heap[W.heap.size]? = some (.cells #[.int .u32 (e.1.x : Int), .int .i64 (e.1.n : Int)] 37) := by rw [HW2.out]; exact heap_alloc_new W _
        obtain ⟨i1, i2, i3, i4⟩ := hi
        have hs := HSU1.out
        have HK := hK W.heap.size W2 (KeepsN.of_below hbW) ⟨Nat.le_trans i1 hbW.size, i2.trans (hbW.mono i2.size), below_keeps hbW i3 (by omega), below_keeps hbW i4 (by omega)⟩ ⟨i1, hrW⟩
        unfold pv at HK ⊢
        simp only [List.setIfInBounds_toArray, List.set_cons_zero, List.set_cons_succ] at HK ⊢
        clear hK i1 i2 i3 i4 hx hbW hrW
        gi_wp2
        rw [← HW2.out]
        exact HK
      case body1 =>
        rintro l i e b W hl _ ⟨i1, i2, i3, i4⟩ ⟨j1, j2⟩ hx
        have hwb := HKZ0.out.below i2
        have hs := HSU1.out
        obtain ⟨ek, ev⟩ := e
        simp only at j2
        have p0 : W.cell? ⟨b, 0, none⟩ = some (.int .u32 (ek.x : Int)) := by rw [cell_of_row _ _ _ _ _ _ j2]; rfl
        have p1 : W.cell? ⟨b, 1, none⟩ = some (.int .i64 (ek.n : Int)) := by rw [cell_of_row _ _ _ _ _ _ j2]; rfl
        have n0 : W.cell? ⟨Z0.heap.size, 0, none⟩ = some (.int .i64 (i : Int)) := by rw [cell_of_row _ _ _ _ _ _ i3]; rfl
        have nf : W.frozen? ⟨Z0.heap.size, 0, none⟩ = false := frozen_of_row _ _ _ _ _ i3
        have l0 : W.cell? ⟨Z0.heap.size + 1, 0, none⟩ = some (.bool false) := by rw [cell_of_row _ _ _ _ _ _ i4]; rfl
        have lf : W.frozen? ⟨Z0.heap.size + 1, 0, none⟩ = false := frozen_of_row _ _ _ _ _ i4
        have r0 : W.cell? ⟨rbx1, 0, none⟩ = some (.int .i64 1) := by rw [cell_of_row _ _ _ _ _ _ (below_keeps i2 RR1.out (Array.getElem?_eq_some_iff.1 RR1.out).1)]; rfl
        have o5 : W.cell? ⟨w.heap.size, 5, none⟩ = some (.int .i64 a) := by rw [cell_of_row _ _ _ _ _ _ hwb.ob]; rfl
        obtain ⟨ao, nE, cap, hvw, HNE, hnc, hcm⟩ := hwb.en.shape
        have hin : i < nE := by have h1 := (List.getElem?_eq_some_iff.1 hx).1; have h2 := HNE.out; omega
        have hwt := hwb.wt
        have hen := hwb.en
        rw [hvw] at hwt hen
        have wt0 : W.cell? ⟨bw, 0, none⟩ = some (.slice ao nE cap) := by rw [cell_of_row _ _ _ _ _ _ hwt]; rfl
        obtain ⟨g, f, hao, hg, hf, c0, c1, c2⟩ := hen.at i hin
        rw [hx] at hf
        obtain rfl := Option.some.inj hf
        subst hao
        simp only at c0 c1 c2
        have b1 : ¬ ((nE : Int) ≤ (i : Int)) := by omega
        have b2 : (i : Int) < (nE : Int) := by omega
        have b3 : (0 : Int) ≤ (i : Int) := by omega
        have hq : ∀ u : World, (Op.equalIn 10000 37 (.agg #[.int .u32 (ek.x : Int), .int .i64 (ek.n : Int)]) (.agg #[.int .u32 (ek.x : Int), .int .i64 (ek.n : Int)])).run Try.prog u = .ok true u := fun u => (eqK ek ek u).trans (by simp)
        unfold maxLen at hcm
        have hmax : (i : Int) ≤ 9223372036854775806 := by omega
        have HFIN : Hid (∀ Wc, Wc.heap = (W.setCell ⟨Z0.heap.size, 0, none⟩ (.int .i64 ((i : Int) + 1))).heap → Wc.os = W.os → Wc.tape = W.tape → Wc.output = W.output → KeepsN U1.heap.size W Wc ∧ U1.heap.size ≤ Wc.heap.size ∧ Below Z0.heap.size Z0 Wc ∧ Wc.heap[Z0.heap.size]? = some (.cells #[.int .i64 ((i + 1 : Nat) : Int)] 3) ∧ Wc.heap[Z0.heap.size + 1]? = some (.cells #[.bool false] 4)) := fun Wc hh h1 h2 h3 => by
          have bt : But Z0.heap.size W (W.setCell ⟨Z0.heap.size, 0, none⟩ (.int .i64 ((i : Int) + 1))) := But.set _ _ _ _
          have hsz : W.heap.size ≤ Wc.heap.size := by rw [hh]; exact bt.size
          have hbl : ∀ j, j < W.heap.size → j ≠ Z0.heap.size → Wc.heap[j]? = W.heap[j]? := fun j hj hn => by rw [hh]; exact bt.block j hj hn
          refine ⟨⟨hsz, fun j o hj ho _ => (hbl j (Array.getElem?_eq_some_iff.1 ho).1 (by omega)).trans ho⟩, Nat.le_trans i1 hsz, ⟨h1.trans i2.os, h2.trans i2.tape, h3.trans i2.output, Nat.le_trans i2.size hsz, fun j hj => (hbl j (by omega) (by omega)).trans (i2.block j hj)⟩, ?_, (hbl _ (by omega) (by omega)).trans i4⟩
          rw [hh, set_row i3]
          rfl
        clear hwb i1 i2 i3 i4 j1 j2 hwt hen hf hx hs hg
        simp only [pv, List.setIfInBounds_toArray, List.set_cons_zero, List.set_cons_succ]
        gi_wp2
        refine wpIn_region_guarded' 21 (fun i => 46 + i) (FL [some (.int .i64 (i : Int)), some (.slice (some ⟨g, 0, none⟩) nE cap), some (.int .i64 (nE : Int)), some (.bool false), some (.bool false), some (.agg #[.int .u32 (ek.x : Int), .int .i64 (ek.n : Int)]), some (.slice (some ⟨g, 0, none⟩) nE cap), some (.int .i64 (i : Int)), some (.pointer (some ⟨g, i * 3, none⟩)), some (.pointer (some ⟨g, i * 3, none⟩)), some (.agg #[.int .u32 (ek.x : Int), .int .i64 (ek.n : Int)]), some (.bool false), some (.bool false), some (.bool false), some (.int .i64 ev), some (.slice (some ⟨g, 0, none⟩) nE cap), some (.int .i64 (i : Int)), some (.pointer (some ⟨g, i * 3, none⟩)), some (.pointer (some ⟨g, i * 3 + 2, none⟩)), some (.int .i64 ev), some (.bool false)]) (fun u => u = W.drew) (fun _ u u' => u' = u) (by kernel_rfl) (by kernel_rfl) rfl (fun _ _ _ _ _ _ h _ _ => h) ?_ ?_
        · simp only [List.take_succ_cons, List.take_zero, N.stepsG]
          refine ⟨?_, ?_, ?_, ?_, ?_, ?_, ?_, ?_, ?_, ?_, ?_, ?_, ?_, ?_, ?_, ?_, ?_, ?_, ?_, ?_, ?_, trivial⟩
          · intro a' u vs hI hold hdep
            obtain rfl : u = W.drew := hI
            exact opAt_plain rfl (wpIn_val (fun _ h => by cases h) (ex_load _ ⟨Z0.heap.size, 0, none⟩ (.tmp 10) _ rfl (hold 10 (fun j hj => low (by decide))) (load_in n0)) ⟨_, rfl, fun x hx => Option.some.inj (Option.some.inj hx), rfl, rfl⟩)
          · intro a' u vs hI hold hdep
            obtain rfl : u = W.drew := hI
            exact opAt_plain rfl (wpIn_val (fun _ h => by cases h) (ex_load _ ⟨bw, 0, none⟩ (.tmp 8) _ rfl (hold 8 (fun j hj => low (by decide))) (load_sE wt0)) ⟨_, rfl, fun x hx => Option.some.inj (Option.some.inj hx), rfl, rfl⟩)
          · intro a' u vs hI hold hdep
            obtain rfl : u = W.drew := hI
            have h1 := hdep ⟨1, .data⟩ (by simp) rfl (by decide)
            have e1 := h1.1.trans (h1.2 _ rfl)
            exact opAt_plain rfl (wpIn_val (fun _ h => by cases h) (ex_len 47 _ _ _ rfl e1) ⟨_, rfl, fun x hx => Option.some.inj (Option.some.inj hx), rfl, rfl⟩)
          · intro a' u vs hI hold hdep
            obtain rfl : u = W.drew := hI
            have h0 := hdep ⟨0, .data⟩ (by simp) rfl (by decide)
            have e0 := h0.1.trans (h0.2 _ rfl)
            have h2 := hdep ⟨2, .data⟩ (by simp) rfl (by decide)
            have e2 := h2.1.trans (h2.2 _ rfl)
            exact opAt_plain rfl (wpIn_val (fun _ h => by cases h) (ex_geq (.tmp 46) (.tmp 48) _ _ _ rfl e0 e2 (decide_eq_false (by omega))) ⟨_, rfl, fun x hx => Option.some.inj (Option.some.inj hx), rfl, rfl⟩)
          · intro a' u vs hI hold hdep
            obtain rfl : u = W.drew := hI
            have h3 := hdep ⟨3, .data⟩ (by simp) rfl (by decide)
            have e3 := h3.1.trans (h3.2 _ rfl)
            exact opAt_plain rfl (wpIn_val (fun _ h => by cases h) (ex_move (.tmp 49) _ rfl e3) ⟨_, rfl, fun x hx => Option.some.inj (Option.some.inj hx), rfl, rfl⟩)
          · intro a' u vs hI hold hdep
            obtain rfl : u = W.drew := hI
            have hg := hdep ⟨4, .guard⟩ (by simp) rfl (by decide)
            have eg := hg.1.trans (hg.2 _ rfl)
            exact opAt_go (j := 4) (t := 50) (b := false) rfl rfl eg (wpIn_val (fun _ h => by cases h) (ex_load _ ⟨b, 0, none⟩ (.tmp 12) _ rfl (hold 12 (fun j hj => low (by decide))) (load_pre p0 p1)) ⟨_, rfl, fun x hx => Option.some.inj (Option.some.inj hx), rfl, rfl⟩)
          · intro a' u vs hI hold hdep
            obtain rfl : u = W.drew := hI
            have hg := hdep ⟨4, .guard⟩ (by simp) rfl (by decide)
            have eg := hg.1.trans (hg.2 _ rfl)
            exact opAt_go (j := 4) (t := 50) (b := false) rfl rfl eg (wpIn_val (fun _ h => by cases h) (ex_load _ ⟨bw, 0, none⟩ (.tmp 8) _ rfl (hold 8 (fun j hj => low (by decide))) (load_sE wt0)) ⟨_, rfl, fun x hx => Option.some.inj (Option.some.inj hx), rfl, rfl⟩)
          · intro a' u vs hI hold hdep
            obtain rfl : u = W.drew := hI
            have hg := hdep ⟨4, .guard⟩ (by simp) rfl (by decide)
            have eg := hg.1.trans (hg.2 _ rfl)
            exact opAt_go (j := 4) (t := 50) (b := false) rfl rfl eg (wpIn_val (fun _ h => by cases h) (ex_load _ ⟨Z0.heap.size, 0, none⟩ (.tmp 10) _ rfl (hold 10 (fun j hj => low (by decide))) (load_in n0)) ⟨_, rfl, fun x hx => Option.some.inj (Option.some.inj hx), rfl, rfl⟩)
          · intro a' u vs hI hold hdep
            obtain rfl : u = W.drew := hI
            have hg := hdep ⟨4, .guard⟩ (by simp) rfl (by decide)
            have eg := hg.1.trans (hg.2 _ rfl)
            have h6 := hdep ⟨6, .data⟩ (by simp) rfl (by decide)
            have e6 := h6.1.trans (h6.2 _ rfl)
            have h7 := hdep ⟨7, .data⟩ (by simp) rfl (by decide)
            have e7 := h7.1.trans (h7.2 _ rfl)
            exact opAt_go (j := 4) (t := 50) (b := false) rfl rfl eg (wpIn_val (fun _ h => by cases h) (ex_index _ (.tmp 52) (.tmp 53) _ _ _ rfl e6 e7 (idx_en hin _)) ⟨_, rfl, fun x hx => Option.some.inj (Option.some.inj hx), rfl, rfl⟩)
          · intro a' u vs hI hold hdep
            obtain rfl : u = W.drew := hI
            have hg := hdep ⟨4, .guard⟩ (by simp) rfl (by decide)
            have eg := hg.1.trans (hg.2 _ rfl)
            have h8 := hdep ⟨8, .data⟩ (by simp) rfl (by decide)
            have e8 := h8.1.trans (h8.2 _ rfl)
            exact opAt_go (j := 4) (t := 50) (b := false) rfl rfl eg (wpIn_val (fun _ h => by cases h) (ex_field _ _ (.tmp 54) 0 _ rfl e8 (fld_rE _).1) ⟨_, rfl, fun x hx => Option.some.inj (Option.some.inj hx), rfl, rfl⟩)
          · intro a' u vs hI hold hdep
            obtain rfl : u = W.drew := hI
            have hg := hdep ⟨4, .guard⟩ (by simp) rfl (by decide)
            have eg := hg.1.trans (hg.2 _ rfl)
            have h9 := hdep ⟨9, .data⟩ (by simp) rfl (by decide)
            have e9 := h9.1.trans (h9.2 _ rfl)
            exact opAt_go (j := 4) (t := 50) (b := false) rfl rfl eg (wpIn_val (fun _ h => by cases h) (ex_load _ ⟨g, i * 3, none⟩ (.tmp 55) _ rfl e9 (load_pre c0 c1)) ⟨_, rfl, fun x hx => Option.some.inj (Option.some.inj hx), rfl, rfl⟩)
          · intro a' u vs hI hold hdep
            obtain rfl : u = W.drew := hI
            have hg := hdep ⟨4, .guard⟩ (by simp) rfl (by decide)
            have eg := hg.1.trans (hg.2 _ rfl)
            have h5 := hdep ⟨5, .data⟩ (by simp) rfl (by decide)
            have e5 := h5.1.trans (h5.2 _ rfl)
            have h10 := hdep ⟨10, .data⟩ (by simp) rfl (by decide)
            have e10 := h10.1.trans (h10.2 _ rfl)
            exact opAt_go (j := 4) (t := 50) (b := false) rfl rfl eg (wpIn_val (fun _ h => by cases h) (ex_neqK (.tmp 51) (.tmp 56) ek rfl e5 e10) ⟨_, rfl, fun x hx => Option.some.inj (Option.some.inj hx), rfl, rfl⟩)
          · intro a' u vs hI hold hdep
            obtain rfl : u = W.drew := hI
            have h4 := hdep ⟨4, .data⟩ (by simp) rfl (by decide)
            have e4 := h4.1.trans (h4.2 _ rfl)
            have h11 := hdep ⟨11, .data⟩ (by simp) rfl (by decide)
            have e11 := h11.1.trans (h11.2 _ rfl)
            exact opAt_plain rfl (wpIn_val (fun _ h => by cases h) (ex_pickF (.tmp 50) (.tmp 57) _ rfl e4 e11) ⟨_, rfl, fun x hx => Option.some.inj (Option.some.inj hx), rfl, rfl⟩)
          · intro a' u vs hI hold hdep
            obtain rfl : u = W.drew := hI
            have h12 := hdep ⟨12, .data⟩ (by simp) rfl (by decide)
            have e12 := h12.1.trans (h12.2 _ rfl)
            exact opAt_plain rfl (wpIn_val (fun _ h => by cases h) (ex_move (.tmp 58) _ rfl e12) ⟨_, rfl, fun x hx => Option.some.inj (Option.some.inj hx), rfl, rfl⟩)
          · intro a' u vs hI hold hdep
            obtain rfl : u = W.drew := hI
            have hg := hdep ⟨13, .guard⟩ (by simp) rfl (by decide)
            have eg := hg.1.trans (hg.2 _ rfl)
            exact opAt_go (j := 13) (t := 59) (b := false) rfl rfl eg (wpIn_val (fun _ h => by cases h) (ex_move (.tmp 13) _ rfl (hold 13 (fun j hj => low (by decide)))) ⟨_, rfl, fun x hx => Option.some.inj (Option.some.inj hx), rfl, rfl⟩)
          · intro a' u vs hI hold hdep
            obtain rfl : u = W.drew := hI
            have hg := hdep ⟨13, .guard⟩ (by simp) rfl (by decide)
            have eg := hg.1.trans (hg.2 _ rfl)
            exact opAt_go (j := 13) (t := 59) (b := false) rfl rfl eg (wpIn_val (fun _ h => by cases h) (ex_load _ ⟨bw, 0, none⟩ (.tmp 8) _ rfl (hold 8 (fun j hj => low (by decide))) (load_sE wt0)) ⟨_, rfl, fun x hx => Option.some.inj (Option.some.inj hx), rfl, rfl⟩)
          · intro a' u vs hI hold hdep
            obtain rfl : u = W.drew := hI
            have hg := hdep ⟨13, .guard⟩ (by simp) rfl (by decide)
            have eg := hg.1.trans (hg.2 _ rfl)
            exact opAt_go (j := 13) (t := 59) (b := false) rfl rfl eg (wpIn_val (fun _ h => by cases h) (ex_load _ ⟨Z0.heap.size, 0, none⟩ (.tmp 10) _ rfl (hold 10 (fun j hj => low (by decide))) (load_in n0)) ⟨_, rfl, fun x hx => Option.some.inj (Option.some.inj hx), rfl, rfl⟩)
          · intro a' u vs hI hold hdep
            obtain rfl : u = W.drew := hI
            have hg := hdep ⟨13, .guard⟩ (by simp) rfl (by decide)
            have eg := hg.1.trans (hg.2 _ rfl)
            have h15 := hdep ⟨15, .data⟩ (by simp) rfl (by decide)
            have e15 := h15.1.trans (h15.2 _ rfl)
            have h16 := hdep ⟨16, .data⟩ (by simp) rfl (by decide)
            have e16 := h16.1.trans (h16.2 _ rfl)
            exact opAt_go (j := 13) (t := 59) (b := false) rfl rfl eg (wpIn_val (fun _ h => by cases h) (ex_index _ (.tmp 61) (.tmp 62) _ _ _ rfl e15 e16 (idx_en hin _)) ⟨_, rfl, fun x hx => Option.some.inj (Option.some.inj hx), rfl, rfl⟩)
          · intro a' u vs hI hold hdep
            obtain rfl : u = W.drew := hI
            have hg := hdep ⟨13, .guard⟩ (by simp) rfl (by decide)
            have eg := hg.1.trans (hg.2 _ rfl)
            have h17 := hdep ⟨17, .data⟩ (by simp) rfl (by decide)
            have e17 := h17.1.trans (h17.2 _ rfl)
            exact opAt_go (j := 13) (t := 59) (b := false) rfl rfl eg (wpIn_val (fun _ h => by cases h) (ex_field _ _ (.tmp 63) 1 _ rfl e17 (fld_rE _).2) ⟨_, rfl, fun x hx => Option.some.inj (Option.some.inj hx), rfl, rfl⟩)
          · intro a' u vs hI hold hdep
            obtain rfl : u = W.drew := hI
            have hg := hdep ⟨13, .guard⟩ (by simp) rfl (by decide)
            have eg := hg.1.trans (hg.2 _ rfl)
            have h18 := hdep ⟨18, .data⟩ (by simp) rfl (by decide)
            have e18 := h18.1.trans (h18.2 _ rfl)
            exact opAt_go (j := 13) (t := 59) (b := false) rfl rfl eg (wpIn_val (fun _ h => by cases h) (ex_load _ ⟨g, i * 3 + 2, none⟩ (.tmp 64) _ rfl e18 (load_in c2)) ⟨_, rfl, fun x hx => Option.some.inj (Option.some.inj hx), rfl, rfl⟩)
          · intro a' u vs hI hold hdep
            obtain rfl : u = W.drew := hI
            have hg := hdep ⟨13, .guard⟩ (by simp) rfl (by decide)
            have eg := hg.1.trans (hg.2 _ rfl)
            have h14 := hdep ⟨14, .data⟩ (by simp) rfl (by decide)
            have e14 := h14.1.trans (h14.2 _ rfl)
            have h19 := hdep ⟨19, .data⟩ (by simp) rfl (by decide)
            have e19 := h19.1.trans (h19.2 _ rfl)
            exact opAt_go (j := 13) (t := 59) (b := false) rfl rfl eg (wpIn_val (fun _ h => by cases h) (ex_neqI (.tmp 60) (.tmp 65) _ rfl e14 e19) ⟨_, rfl, fun x hx => Option.some.inj (Option.some.inj hx), rfl, rfl⟩)
        intro vs V2 hV2 hF
        subst hV2
        have f0 := hF 0 (by decide) _ rfl
        have f1 := hF 1 (by decide) _ rfl
        have f2 := hF 2 (by decide) _ rfl
        have f3 := hF 3 (by decide) _ rfl
        have f4 := hF 4 (by decide) _ rfl
        have f5 := hF 5 (by decide) _ rfl
        have f6 := hF 6 (by decide) _ rfl
        have f7 := hF 7 (by decide) _ rfl
        have f8 := hF 8 (by decide) _ rfl
        have f9 := hF 9 (by decide) _ rfl
        have f10 := hF 10 (by decide) _ rfl
        have f11 := hF 11 (by decide) _ rfl
        have f12 := hF 12 (by decide) _ rfl
        have f13 := hF 13 (by decide) _ rfl
        have f14 := hF 14 (by decide) _ rfl
        have f15 := hF 15 (by decide) _ rfl
        have f16 := hF 16 (by decide) _ rfl
        have f17 := hF 17 (by decide) _ rfl
        have f18 := hF 18 (by decide) _ rfl
        have f19 := hF 19 (by decide) _ rfl
        have f20 := hF 20 (by decide) _ rfl
        simp only [List.drop_succ_cons, List.drop_zero, puts, List.range, List.range.loop, List.foldr, Nat.reduceAdd, if_true, f0, f1, f2, f3, f4, f5, f6, f7, f8, f9, f10, f11, f12, f13, f14, f15, f16, f17, f18, f19, f20, Act.put, List.setIfInBounds_toArray, List.set_cons_zero, List.set_cons_succ]
        clear hF f0 f1 f2 f3 f4 f5 f6 f7 f8 f9 f10 f11 f12 f13 f14 f15 f16 f17 f18 f19 f20
        gi_wp2
        exact HFIN.out _ (by rfl) (by rfl) (by rfl) (by rfl)
      case done1 =>
        rintro D1 W hD ⟨i1, i2, i3, i4⟩ hK
        have hwb := HKZ0.out.below i2
        have n0 : W.cell? ⟨Z0.heap.size, 0, none⟩ = some (.int .i64 ((entsIn (ents m.tr) x y).length : Int)) := by rw [cell_of_row _ _ _ _ _ _ i3]; rfl
        have l0 : W.cell? ⟨Z0.heap.size + 1, 0, none⟩ = some (.bool false) := by rw [cell_of_row _ _ _ _ _ _ i4]; rfl
        have r0 : W.cell? ⟨rbx1, 0, none⟩ = some (.int .i64 1) := by rw [cell_of_row _ _ _ _ _ _ (below_keeps i2 RR1.out (Array.getElem?_eq_some_iff.1 RR1.out).1)]; rfl
        obtain ⟨ao, nE, cap, hvw, HNE, hnc, hcm⟩ := hwb.en.shape
        have hwt := hwb.wt
        rw [hvw] at hwt
        have wt0 : W.cell? ⟨bw, 0, none⟩ = some (.slice ao nE cap) := by rw [cell_of_row _ _ _ _ _ _ hwt]; rfl
        rw [← HNE.out] at n0
        obtain ⟨Z1, HZ1⟩ : ∃ Z1, Hid (Z1 = W.alloc (.cells #[.int .i64 2] 3)) := ⟨_, rfl⟩
        have hbZ1 : Below W.heap.size W Z1 := by rw [HZ1.out]; exact (Below.refl _ _).alloc (Nat.le_refl _) _
        have HKZ1 := hid (hwb.below hbZ1)
        have RR2 : Hid (Z1.heap[W.heap.size]? = some (.cells #[.int .i64 2] 3)) := by rw [HZ1.out]; exact heap_alloc_new W _
        have HD1Z1 : Hid (Z1.heap[D1]? = some (.deferred (some []))) := below_keeps hbZ1 hK (Array.getElem?_eq_some_iff.1 hK).1
        have HDW1 := hid hD
        have HSW1 : Hid (w.heap.size + 2 ≤ W.heap.size) := by have h1 := (Array.getElem?_eq_some_iff.1 hwb.rs).1; unfold Hid; omega
        have HD0Z1 : Hid (Z1.heap[D0]? = some (.deferred (some []))) := by
          have h1 := (Array.getElem?_eq_some_iff.1 HD0Z0.out).1
          have h2 := below_keeps i2 HD0Z0.out h1
          exact below_keeps hbZ1 h2 (Array.getElem?_eq_some_iff.1 h2).1
        have HDS1 : Hid (w.heap.size + 2 ≤ D1) := by have h1 := (Array.getElem?_eq_some_iff.1 HKZ0.out.rs).1; have h2 := HSU1.out; unfold Hid; omega
        have HDN : Hid (D1 ≠ D0) := by have h1 := (Array.getElem?_eq_some_iff.1 HD0Z0.out).1; have h2 := HSU1.out; unfold Hid; omega
        obtain ⟨rbx2, Hrbx2⟩ : ∃ q, Hid (q = W.heap.size) := ⟨_, rfl⟩
        rw [← Hrbx2.out] at RR2
        clear hwb hwt i1 i2 i3 i4 hK hD hbZ1 hvw
        go_wp2_with fail
        rw [← HZ1.out, ← Hrbx2.out]
        have q0 : Z1.cell? ⟨rbx2, 0, none⟩ = some (.int .i64 2) := by rw [cell_of_row _ _ _ _ _ _ RR2.out]; rfl
        have hwb := HKZ1.out
        have rs0 : Z1.cell? ⟨w.heap.size + 1, 0, none⟩ = some (.bool false) := by rw [cell_of_row _ _ _ _ _ _ hwb.rs]; rfl
        have rsf : Z1.frozen? ⟨w.heap.size + 1, 0, none⟩ = false := frozen_of_row _ _ _ _ _ hwb.rs
        obtain ⟨Y2, hY2⟩ : ∃ Y2, Y2 = Z1.setCell ⟨w.heap.size + 1, 0, none⟩ (.bool true) := ⟨_, rfl⟩
        have bt : But (w.heap.size + 1) Z1 Y2 := by rw [hY2]; exact But.set _ _ _ _
        have hsz := (Array.getElem?_eq_some_iff.1 hwb.rs).1
        have RS : Hid (Y2.heap[w.heap.size + 1]? = some (.cells #[.bool true] 4)) := by rw [hY2]; exact set_row hwb.rs
        have HBY : Hid (Below w.heap.size w Y2) := bt.below hwb.bel (by omega) (by omega)
        have hd0 := HDW0.out
        have hd1 := HDW1.out
        have E0 : Hid (Y2.heap[D0]? = some (.deferred (some []))) := (bt.block _ (Array.getElem?_eq_some_iff.1 HD0Z1.out).1 (by have := HDS0.out; omega)).trans HD0Z1.out
        have E1 : Hid (Y2.heap[D1]? = some (.deferred (some []))) := (bt.block _ (Array.getElem?_eq_some_iff.1 HD1Z1.out).1 (by have := HDS1.out; omega)).trans HD1Z1.out
        have HY2 := hid hY2
        clear hwb hY2 bt hsz hd0 hd1
        rw [rounds_succ]
        go_wp2_with fail
        rw [← HY2.out]
        have hK0 := E0.out
        have hK1 := E1.out
        have hne : D1 ≠ D0 := HDN.out
        have hK0' : (Y2.putObj D1 (.deferred none)).heap[D0]? = some (.deferred (some [])) := (World.putObj_heap_other (fun e => hne e.symm)).trans hK0
        have hf1 : Below w.heap.size w (Y2.putObj D1 (.deferred none)) := HBY.out.trans (belowK_b (w := w) (Nat.le_refl _) Y2 D1 _ _ (by have := HDS1.out; omega) hK1 rfl rfl)
        have hf0 : Below w.heap.size w ((Y2.putObj D1 (.deferred none)).putObj D0 (.deferred none)) := hf1.trans (belowK_b (w := w) (Nat.le_refl _) _ D0 _ _ (by have := HDS0.out; omega) hK0' rfl rfl)
        have rz : ((Y2.putObj D1 (.deferred none)).putObj D0 (.deferred none)).heap[w.heap.size + 1]? = some (.cells #[.bool true] 4) := (World.putObj_heap_other (by have := HDS0.out; omega)).trans ((World.putObj_heap_other (by have := HDS1.out; omega)).trans RS.out)
        have g0 : ((Y2.putObj D1 (.deferred none)).putObj D0 (.deferred none)).cell? ⟨w.heap.size + 1, 0, none⟩ = some (.bool true) := by rw [cell_of_row _ _ _ _ _ _ rz]; rfl
        refine ⟨by simp, .inl ⟨_, _, rfl, run_takeDeferred hK1, by simp, .inl ⟨_, _, rfl, run_takeDeferred hK0', ?_⟩⟩⟩
        exact ⟨_, (by simp [results, Try.results21, go_sem, g0]), rfl, hf0⟩
      case stop1 =>
        rintro D c W hD h hK
        exact h.elim
    case stop0 =>
      rintro D0 c W hD ⟨rfl, i1, i2, ⟨i, i3⟩, i4⟩ hK
      refine wpIn_wide.2 ?_
      have hwb := HKV0.out.below i2
      have l0 : W.cell? ⟨V0.heap.size + 1, 0, none⟩ = some (.bool true) := by rw [cell_of_row _ _ _ _ _ _ i4]; rfl
      have r0 : W.cell? ⟨rbx0, 0, none⟩ = some (.int .i64 0) := by rw [cell_of_row _ _ _ _ _ _ (below_keeps i2 RR0.out (Array.getElem?_eq_some_iff.1 RR0.out).1)]; rfl
      obtain ⟨ao, nE, cap, hvw, HNE, hnc, hcm⟩ := hwb.en.shape
      have hwt := hwb.wt
      rw [hvw] at hwt
      have wt0 : W.cell? ⟨bw, 0, none⟩ = some (.slice ao nE cap) := by rw [cell_of_row _ _ _ _ _ _ hwt]; rfl
      obtain ⟨Z0, HZ0⟩ : ∃ Z0, Hid (Z0 = W.alloc (.cells #[.int .i64 1] 3)) := ⟨_, rfl⟩
      have hbZ0 : Below W.heap.size W Z0 := by rw [HZ0.out]; exact (Below.refl _ _).alloc (Nat.le_refl _) _
      have HKZ0 := hid (hwb.below hbZ0)
      have RR1 : Hid (Z0.heap[W.heap.size]? = some (.cells #[.int .i64 1] 3)) := by rw [HZ0.out]; exact heap_alloc_new W _
      have HD0Z0 : Hid (Z0.heap[D0]? = some (.deferred (some []))) := below_keeps hbZ0 hK (Array.getElem?_eq_some_iff.1 hK).1
      have HDW0 := hid hD
      have HSW0 : Hid (w.heap.size + 2 ≤ W.heap.size) := by have h1 := (Array.getElem?_eq_some_iff.1 hwb.rs).1; unfold Hid; omega
      have HDS0 : Hid (w.heap.size + 2 ≤ D0) := by have h1 := HSZ0.out; have h2 := HSU0.out; unfold Hid; omega
      obtain ⟨rbx1, Hrbx1⟩ : ∃ q, Hid (q = W.heap.size) := ⟨_, rfl⟩
      rw [← Hrbx1.out] at RR1
      clear hwb hwt i1 i2 i3 i4 hK hD hbZ0 hvw
      go_wp2_with fail
      rw [← HZ0.out, ← Hrbx1.out]
      rw [rounds_succ]
      have q0 : Z0.cell? ⟨rbx1, 0, none⟩ = some (.int .i64 1) := by rw [cell_of_row _ _ _ _ _ _ RR1.out]; rfl
      obtain ⟨U1, HU1⟩ : ∃ U1, Hid (U1 = (Z0.alloc (.cells #[.int .i64 0] 3)).alloc (.cells #[.bool false] 4)) := ⟨_, rfl⟩
      have HSU1 : Hid (U1.heap.size = Z0.heap.size + 2) := by unfold Hid; rw [HU1.out]; simp
      have HBU1 : Hid (Below Z0.heap.size Z0 U1) := by rw [HU1.out]; exact ((Below.refl _ _).alloc (Nat.le_refl _) _).alloc (by simp) _
      have RNU1 : Hid (U1.heap[Z0.heap.size]? = some (.cells #[.int .i64 ((0 : Nat) : Int)] 3)) := by
        unfold Hid; rw [HU1.out, Below.heap_alloc _ _ _ (by simp)]; exact heap_alloc_new Z0 _
      have RLU1 : Hid (U1.heap[Z0.heap.size + 1]? = some (.cells #[.bool false] 4)) := by
        have h := heap_alloc_new (Z0.alloc (.cells #[.int .i64 0] 3)) (.cells #[.bool false] 4)
        rw [World.size_alloc] at h
        unfold Hid; rw [HU1.out]; exact h
      go_upto_region 13 with fail
      rw [← HU1.out]
      go_wp2_with fail
      refine wpIn_wide.1 (wpIn_givesU (β := Nat) (n := 9) (F := Fence.wide) rfl (by omega) (gf := 44) (lb := #[.pointer (some ⟨pbx, 0, none⟩), .pointer (some ⟨tbx, 0, none⟩)]) rfl trivial (enters_of Try.func44 (by kernel_rfl) rfl)
        (seq_gives 8 (by omega) (fun b => b = tb) pbx tbx tb x y m HX.out HWF.out HNM.out) (fun _ => rfl)
        (fun i W => U1.heap.size ≤ W.heap.size ∧ Below Z0.heap.size Z0 W ∧ W.heap[Z0.heap.size]? = some (.cells #[.int .i64 (i : Int)] 3) ∧ W.heap[Z0.heap.size + 1]? = some (.cells #[.bool false] 4))
        (fun c W => False) ?hI1 ?hIx1 ?hF1 ?h01
        (fun e b tt => (((tt.setIfInBounds 36 (pv e.1)).setIfInBounds 37 (.int .i64 e.2)).setIfInBounds 12 (.pointer (some ⟨b, 0, none⟩))).setIfInBounds 13 (.int .i64 e.2)) (fun e b W => U1.heap.size ≤ b ∧ W.heap[b]? = some (.cells #[.int .u32 (e.1.x : Int), .int .i64 (e.1.n : Int)] 37)) ?hAy1 ?assign1 ?body1 ?done1 ?stop1)
      case hI1 =>
        refine ownN_below (fun i W hi => hi.1) ?_
        rintro i W W' ⟨i1, i2, i3, i4⟩ hb
        have hs := HSU1.out
        exact ⟨Nat.le_trans i1 hb.size, i2.trans (hb.mono (by omega)), below_keeps hb i3 (by omega), below_keeps hb i4 (by omega)⟩
      case hIx1 =>
        rintro c W W' row h hg hr
        exact h.elim
      case hF1 =>
        rintro i W ⟨i1, i2, i3, i4⟩
        exact HKZ0.out.sq.below i2
      case h01 => exact ⟨Nat.le_refl _, HBU1.out, RNU1.out, RLU1.out⟩
      case hAy1 =>
        rintro e b _ W W' row ⟨h1, h2⟩ hg hr
        refine ⟨h1, (hg.block _ (Array.getElem?_eq_some_iff.1 h2).1 (fun he => ?_)).trans h2⟩
        obtain ⟨_, o, ho, hm⟩ := hr b he.symm
        rw [h2] at ho
        cases ho
        rcases hm with hm | ⟨cs, hm⟩ | ⟨cs, hm⟩
        · cases hm
        · injection hm with _ hm; exact absurd hm (by decide)
        · injection hm with _ hm; exact absurd hm (by decide)
      case assign1 =>
        intro l i e W K hi hx hK
        obtain ⟨W2, HW2⟩ : ∃ W2, Hid (W2 = W.alloc (.cells #[.int .u32 (e.1.x : Int), .int .i64 (e.1.n : Int)] 37)) := ⟨_, rfl⟩
        have hbW : Below W.heap.size W W2 := by rw [HW2.out]; exact (Below.refl _ _).alloc (Nat.le_refl _) _
        have hrW : W2.heap[W.heap.size]? = some (.cells #[.int .u32 (e.1.x : Int), .int .i64 (e.1.n : Int)] 37) := by rw [HW2.out]; exact heap_alloc_new W _
        obtain ⟨i1, i2, i3, i4⟩ := hi
        have hs := HSU1.out
        have HK := hK W.heap.size W2 (KeepsN.of_below hbW) ⟨Nat.le_trans i1 hbW.size, i2.trans (hbW.mono i2.size), below_keeps hbW i3 (by omega), below_keeps hbW i4 (by omega)⟩ ⟨i1, hrW⟩
        unfold pv at HK ⊢
        simp only [List.setIfInBounds_toArray, List.set_cons_zero, List.set_cons_succ] at HK ⊢
        clear hK i1 i2 i3 i4 hx hbW hrW
        gi_wp2
        rw [← HW2.out]
        exact HK
      case body1 =>
        rintro l i e b W hl _ ⟨i1, i2, i3, i4⟩ ⟨j1, j2⟩ hx
        have hwb := HKZ0.out.below i2
        have hs := HSU1.out
        obtain ⟨ek, ev⟩ := e
        simp only at j2
        have p0 : W.cell? ⟨b, 0, none⟩ = some (.int .u32 (ek.x : Int)) := by rw [cell_of_row _ _ _ _ _ _ j2]; rfl
        have p1 : W.cell? ⟨b, 1, none⟩ = some (.int .i64 (ek.n : Int)) := by rw [cell_of_row _ _ _ _ _ _ j2]; rfl
        have n0 : W.cell? ⟨Z0.heap.size, 0, none⟩ = some (.int .i64 (i : Int)) := by rw [cell_of_row _ _ _ _ _ _ i3]; rfl
        have nf : W.frozen? ⟨Z0.heap.size, 0, none⟩ = false := frozen_of_row _ _ _ _ _ i3
        have l0 : W.cell? ⟨Z0.heap.size + 1, 0, none⟩ = some (.bool false) := by rw [cell_of_row _ _ _ _ _ _ i4]; rfl
        have lf : W.frozen? ⟨Z0.heap.size + 1, 0, none⟩ = false := frozen_of_row _ _ _ _ _ i4
        have r0 : W.cell? ⟨rbx1, 0, none⟩ = some (.int .i64 1) := by rw [cell_of_row _ _ _ _ _ _ (below_keeps i2 RR1.out (Array.getElem?_eq_some_iff.1 RR1.out).1)]; rfl
        have o5 : W.cell? ⟨w.heap.size, 5, none⟩ = some (.int .i64 a) := by rw [cell_of_row _ _ _ _ _ _ hwb.ob]; rfl
        obtain ⟨ao, nE, cap, hvw, HNE, hnc, hcm⟩ := hwb.en.shape
        have hin : i < nE := by have h1 := (List.getElem?_eq_some_iff.1 hx).1; have h2 := HNE.out; omega
        have hwt := hwb.wt
        have hen := hwb.en
        rw [hvw] at hwt hen
        have wt0 : W.cell? ⟨bw, 0, none⟩ = some (.slice ao nE cap) := by rw [cell_of_row _ _ _ _ _ _ hwt]; rfl
        obtain ⟨g, f, hao, hg, hf, c0, c1, c2⟩ := hen.at i hin
        rw [hx] at hf
        obtain rfl := Option.some.inj hf
        subst hao
        simp only at c0 c1 c2
        have b1 : ¬ ((nE : Int) ≤ (i : Int)) := by omega
        have b2 : (i : Int) < (nE : Int) := by omega
        have b3 : (0 : Int) ≤ (i : Int) := by omega
        have hq : ∀ u : World, (Op.equalIn 10000 37 (.agg #[.int .u32 (ek.x : Int), .int .i64 (ek.n : Int)]) (.agg #[.int .u32 (ek.x : Int), .int .i64 (ek.n : Int)])).run Try.prog u = .ok true u := fun u => (eqK ek ek u).trans (by simp)
        unfold maxLen at hcm
        have hmax : (i : Int) ≤ 9223372036854775806 := by omega
        have HFIN : Hid (∀ Wc, Wc.heap = (W.setCell ⟨Z0.heap.size, 0, none⟩ (.int .i64 ((i : Int) + 1))).heap → Wc.os = W.os → Wc.tape = W.tape → Wc.output = W.output → KeepsN U1.heap.size W Wc ∧ U1.heap.size ≤ Wc.heap.size ∧ Below Z0.heap.size Z0 Wc ∧ Wc.heap[Z0.heap.size]? = some (.cells #[.int .i64 ((i + 1 : Nat) : Int)] 3) ∧ Wc.heap[Z0.heap.size + 1]? = some (.cells #[.bool false] 4)) := fun Wc hh h1 h2 h3 => by
          have bt : But Z0.heap.size W (W.setCell ⟨Z0.heap.size, 0, none⟩ (.int .i64 ((i : Int) + 1))) := But.set _ _ _ _
          have hsz : W.heap.size ≤ Wc.heap.size := by rw [hh]; exact bt.size
          have hbl : ∀ j, j < W.heap.size → j ≠ Z0.heap.size → Wc.heap[j]? = W.heap[j]? := fun j hj hn => by rw [hh]; exact bt.block j hj hn
          refine ⟨⟨hsz, fun j o hj ho _ => (hbl j (Array.getElem?_eq_some_iff.1 ho).1 (by omega)).trans ho⟩, Nat.le_trans i1 hsz, ⟨h1.trans i2.os, h2.trans i2.tape, h3.trans i2.output, Nat.le_trans i2.size hsz, fun j hj => (hbl j (by omega) (by omega)).trans (i2.block j hj)⟩, ?_, (hbl _ (by omega) (by omega)).trans i4⟩
          rw [hh, set_row i3]
          rfl
        clear hwb i1 i2 i3 i4 j1 j2 hwt hen hf hx hs hg
        simp only [pv, List.setIfInBounds_toArray, List.set_cons_zero, List.set_cons_succ]
        gi_wp2
        refine wpIn_region_guarded' 21 (fun i => 46 + i) (FL [some (.int .i64 (i : Int)), some (.slice (some ⟨g, 0, none⟩) nE cap), some (.int .i64 (nE : Int)), some (.bool false), some (.bool false), some (.agg #[.int .u32 (ek.x : Int), .int .i64 (ek.n : Int)]), some (.slice (some ⟨g, 0, none⟩) nE cap), some (.int .i64 (i : Int)), some (.pointer (some ⟨g, i * 3, none⟩)), some (.pointer (some ⟨g, i * 3, none⟩)), some (.agg #[.int .u32 (ek.x : Int), .int .i64 (ek.n : Int)]), some (.bool false), some (.bool false), some (.bool false), some (.int .i64 ev), some (.slice (some ⟨g, 0, none⟩) nE cap), some (.int .i64 (i : Int)), some (.pointer (some ⟨g, i * 3, none⟩)), some (.pointer (some ⟨g, i * 3 + 2, none⟩)), some (.int .i64 ev), some (.bool false)]) (fun u => u = W.drew) (fun _ u u' => u' = u) (by kernel_rfl) (by kernel_rfl) rfl (fun _ _ _ _ _ _ h _ _ => h) ?_ ?_
        · simp only [List.take_succ_cons, List.take_zero, N.stepsG]
          refine ⟨?_, ?_, ?_, ?_, ?_, ?_, ?_, ?_, ?_, ?_, ?_, ?_, ?_, ?_, ?_, ?_, ?_, ?_, ?_, ?_, ?_, trivial⟩
          · intro a' u vs hI hold hdep
            obtain rfl : u = W.drew := hI
            exact opAt_plain rfl (wpIn_val (fun _ h => by cases h) (ex_load _ ⟨Z0.heap.size, 0, none⟩ (.tmp 10) _ rfl (hold 10 (fun j hj => low (by decide))) (load_in n0)) ⟨_, rfl, fun x hx => Option.some.inj (Option.some.inj hx), rfl, rfl⟩)
          · intro a' u vs hI hold hdep
            obtain rfl : u = W.drew := hI
            exact opAt_plain rfl (wpIn_val (fun _ h => by cases h) (ex_load _ ⟨bw, 0, none⟩ (.tmp 8) _ rfl (hold 8 (fun j hj => low (by decide))) (load_sE wt0)) ⟨_, rfl, fun x hx => Option.some.inj (Option.some.inj hx), rfl, rfl⟩)
          · intro a' u vs hI hold hdep
            obtain rfl : u = W.drew := hI
            have h1 := hdep ⟨1, .data⟩ (by simp) rfl (by decide)
            have e1 := h1.1.trans (h1.2 _ rfl)
            exact opAt_plain rfl (wpIn_val (fun _ h => by cases h) (ex_len 47 _ _ _ rfl e1) ⟨_, rfl, fun x hx => Option.some.inj (Option.some.inj hx), rfl, rfl⟩)
          · intro a' u vs hI hold hdep
            obtain rfl : u = W.drew := hI
            have h0 := hdep ⟨0, .data⟩ (by simp) rfl (by decide)
            have e0 := h0.1.trans (h0.2 _ rfl)
            have h2 := hdep ⟨2, .data⟩ (by simp) rfl (by decide)
            have e2 := h2.1.trans (h2.2 _ rfl)
            exact opAt_plain rfl (wpIn_val (fun _ h => by cases h) (ex_geq (.tmp 46) (.tmp 48) _ _ _ rfl e0 e2 (decide_eq_false (by omega))) ⟨_, rfl, fun x hx => Option.some.inj (Option.some.inj hx), rfl, rfl⟩)
          · intro a' u vs hI hold hdep
            obtain rfl : u = W.drew := hI
            have h3 := hdep ⟨3, .data⟩ (by simp) rfl (by decide)
            have e3 := h3.1.trans (h3.2 _ rfl)
            exact opAt_plain rfl (wpIn_val (fun _ h => by cases h) (ex_move (.tmp 49) _ rfl e3) ⟨_, rfl, fun x hx => Option.some.inj (Option.some.inj hx), rfl, rfl⟩)
          · intro a' u vs hI hold hdep
            obtain rfl : u = W.drew := hI
            have hg := hdep ⟨4, .guard⟩ (by simp) rfl (by decide)
            have eg := hg.1.trans (hg.2 _ rfl)
            exact opAt_go (j := 4) (t := 50) (b := false) rfl rfl eg (wpIn_val (fun _ h => by cases h) (ex_load _ ⟨b, 0, none⟩ (.tmp 12) _ rfl (hold 12 (fun j hj => low (by decide))) (load_pre p0 p1)) ⟨_, rfl, fun x hx => Option.some.inj (Option.some.inj hx), rfl, rfl⟩)
          · intro a' u vs hI hold hdep
            obtain rfl : u = W.drew := hI
            have hg := hdep ⟨4, .guard⟩ (by simp) rfl (by decide)
            have eg := hg.1.trans (hg.2 _ rfl)
            exact opAt_go (j := 4) (t := 50) (b := false) rfl rfl eg (wpIn_val (fun _ h => by cases h) (ex_load _ ⟨bw, 0, none⟩ (.tmp 8) _ rfl (hold 8 (fun j hj => low (by decide))) (load_sE wt0)) ⟨_, rfl, fun x hx => Option.some.inj (Option.some.inj hx), rfl, rfl⟩)
          · intro a' u vs hI hold hdep
            obtain rfl : u = W.drew := hI
            have hg := hdep ⟨4, .guard⟩ (by simp) rfl (by decide)
            have eg := hg.1.trans (hg.2 _ rfl)
            exact opAt_go (j := 4) (t := 50) (b := false) rfl rfl eg (wpIn_val (fun _ h => by cases h) (ex_load _ ⟨Z0.heap.size, 0, none⟩ (.tmp 10) _ rfl (hold 10 (fun j hj => low (by decide))) (load_in n0)) ⟨_, rfl, fun x hx => Option.some.inj (Option.some.inj hx), rfl, rfl⟩)
          · intro a' u vs hI hold hdep
            obtain rfl : u = W.drew := hI
            have hg := hdep ⟨4, .guard⟩ (by simp) rfl (by decide)
            have eg := hg.1.trans (hg.2 _ rfl)
            have h6 := hdep ⟨6, .data⟩ (by simp) rfl (by decide)
            have e6 := h6.1.trans (h6.2 _ rfl)
            have h7 := hdep ⟨7, .data⟩ (by simp) rfl (by decide)
            have e7 := h7.1.trans (h7.2 _ rfl)
            exact opAt_go (j := 4) (t := 50) (b := false) rfl rfl eg (wpIn_val (fun _ h => by cases h) (ex_index _ (.tmp 52) (.tmp 53) _ _ _ rfl e6 e7 (idx_en hin _)) ⟨_, rfl, fun x hx => Option.some.inj (Option.some.inj hx), rfl, rfl⟩)
          · intro a' u vs hI hold hdep
            obtain rfl : u = W.drew := hI
            have hg := hdep ⟨4, .guard⟩ (by simp) rfl (by decide)
            have eg := hg.1.trans (hg.2 _ rfl)
            have h8 := hdep ⟨8, .data⟩ (by simp) rfl (by decide)
            have e8 := h8.1.trans (h8.2 _ rfl)
            exact opAt_go (j := 4) (t := 50) (b := false) rfl rfl eg (wpIn_val (fun _ h => by cases h) (ex_field _ _ (.tmp 54) 0 _ rfl e8 (fld_rE _).1) ⟨_, rfl, fun x hx => Option.some.inj (Option.some.inj hx), rfl, rfl⟩)
          · intro a' u vs hI hold hdep
            obtain rfl : u = W.drew := hI
            have hg := hdep ⟨4, .guard⟩ (by simp) rfl (by decide)
            have eg := hg.1.trans (hg.2 _ rfl)
            have h9 := hdep ⟨9, .data⟩ (by simp) rfl (by decide)
            have e9 := h9.1.trans (h9.2 _ rfl)
            exact opAt_go (j := 4) (t := 50) (b := false) rfl rfl eg (wpIn_val (fun _ h => by cases h) (ex_load _ ⟨g, i * 3, none⟩ (.tmp 55) _ rfl e9 (load_pre c0 c1)) ⟨_, rfl, fun x hx => Option.some.inj (Option.some.inj hx), rfl, rfl⟩)
          · intro a' u vs hI hold hdep
            obtain rfl : u = W.drew := hI
            have hg := hdep ⟨4, .guard⟩ (by simp) rfl (by decide)
            have eg := hg.1.trans (hg.2 _ rfl)
            have h5 := hdep ⟨5, .data⟩ (by simp) rfl (by decide)
            have e5 := h5.1.trans (h5.2 _ rfl)
            have h10 := hdep ⟨10, .data⟩ (by simp) rfl (by decide)
            have e10 := h10.1.trans (h10.2 _ rfl)
            exact opAt_go (j := 4) (t := 50) (b := false) rfl rfl eg (wpIn_val (fun _ h => by cases h) (ex_neqK (.tmp 51) (.tmp 56) ek rfl e5 e10) ⟨_, rfl, fun x hx => Option.some.inj (Option.some.inj hx), rfl, rfl⟩)
          · intro a' u vs hI hold hdep
            obtain rfl : u = W.drew := hI
            have h4 := hdep ⟨4, .data⟩ (by simp) rfl (by decide)
            have e4 := h4.1.trans (h4.2 _ rfl)
            have h11 := hdep ⟨11, .data⟩ (by simp) rfl (by decide)
            have e11 := h11.1.trans (h11.2 _ rfl)
            exact opAt_plain rfl (wpIn_val (fun _ h => by cases h) (ex_pickF (.tmp 50) (.tmp 57) _ rfl e4 e11) ⟨_, rfl, fun x hx => Option.some.inj (Option.some.inj hx), rfl, rfl⟩)
          · intro a' u vs hI hold hdep
            obtain rfl : u = W.drew := hI
            have h12 := hdep ⟨12, .data⟩ (by simp) rfl (by decide)
            have e12 := h12.1.trans (h12.2 _ rfl)
            exact opAt_plain rfl (wpIn_val (fun _ h => by cases h) (ex_move (.tmp 58) _ rfl e12) ⟨_, rfl, fun x hx => Option.some.inj (Option.some.inj hx), rfl, rfl⟩)
          · intro a' u vs hI hold hdep
            obtain rfl : u = W.drew := hI
            have hg := hdep ⟨13, .guard⟩ (by simp) rfl (by decide)
            have eg := hg.1.trans (hg.2 _ rfl)
            exact opAt_go (j := 13) (t := 59) (b := false) rfl rfl eg (wpIn_val (fun _ h => by cases h) (ex_move (.tmp 13) _ rfl (hold 13 (fun j hj => low (by decide)))) ⟨_, rfl, fun x hx => Option.some.inj (Option.some.inj hx), rfl, rfl⟩)
          · intro a' u vs hI hold hdep
            obtain rfl : u = W.drew := hI
            have hg := hdep ⟨13, .guard⟩ (by simp) rfl (by decide)
            have eg := hg.1.trans (hg.2 _ rfl)
            exact opAt_go (j := 13) (t := 59) (b := false) rfl rfl eg (wpIn_val (fun _ h => by cases h) (ex_load _ ⟨bw, 0, none⟩ (.tmp 8) _ rfl (hold 8 (fun j hj => low (by decide))) (load_sE wt0)) ⟨_, rfl, fun x hx => Option.some.inj (Option.some.inj hx), rfl, rfl⟩)
          · intro a' u vs hI hold hdep
            obtain rfl : u = W.drew := hI
            have hg := hdep ⟨13, .guard⟩ (by simp) rfl (by decide)
            have eg := hg.1.trans (hg.2 _ rfl)
            exact opAt_go (j := 13) (t := 59) (b := false) rfl rfl eg (wpIn_val (fun _ h => by cases h) (ex_load _ ⟨Z0.heap.size, 0, none⟩ (.tmp 10) _ rfl (hold 10 (fun j hj => low (by decide))) (load_in n0)) ⟨_, rfl, fun x hx => Option.some.inj (Option.some.inj hx), rfl, rfl⟩)
          · intro a' u vs hI hold hdep
            obtain rfl : u = W.drew := hI
            have hg := hdep ⟨13, .guard⟩ (by simp) rfl (by decide)
            have eg := hg.1.trans (hg.2 _ rfl)
            have h15 := hdep ⟨15, .data⟩ (by simp) rfl (by decide)
            have e15 := h15.1.trans (h15.2 _ rfl)
            have h16 := hdep ⟨16, .data⟩ (by simp) rfl (by decide)
            have e16 := h16.1.trans (h16.2 _ rfl)
            exact opAt_go (j := 13) (t := 59) (b := false) rfl rfl eg (wpIn_val (fun _ h => by cases h) (ex_index _ (.tmp 61) (.tmp 62) _ _ _ rfl e15 e16 (idx_en hin _)) ⟨_, rfl, fun x hx => Option.some.inj (Option.some.inj hx), rfl, rfl⟩)
          · intro a' u vs hI hold hdep
            obtain rfl : u = W.drew := hI
            have hg := hdep ⟨13, .guard⟩ (by simp) rfl (by decide)
            have eg := hg.1.trans (hg.2 _ rfl)
            have h17 := hdep ⟨17, .data⟩ (by simp) rfl (by decide)
            have e17 := h17.1.trans (h17.2 _ rfl)
            exact opAt_go (j := 13) (t := 59) (b := false) rfl rfl eg (wpIn_val (fun _ h => by cases h) (ex_field _ _ (.tmp 63) 1 _ rfl e17 (fld_rE _).2) ⟨_, rfl, fun x hx => Option.some.inj (Option.some.inj hx), rfl, rfl⟩)
          · intro a' u vs hI hold hdep
            obtain rfl : u = W.drew := hI
            have hg := hdep ⟨13, .guard⟩ (by simp) rfl (by decide)
            have eg := hg.1.trans (hg.2 _ rfl)
            have h18 := hdep ⟨18, .data⟩ (by simp) rfl (by decide)
            have e18 := h18.1.trans (h18.2 _ rfl)
            exact opAt_go (j := 13) (t := 59) (b := false) rfl rfl eg (wpIn_val (fun _ h => by cases h) (ex_load _ ⟨g, i * 3 + 2, none⟩ (.tmp 64) _ rfl e18 (load_in c2)) ⟨_, rfl, fun x hx => Option.some.inj (Option.some.inj hx), rfl, rfl⟩)
          · intro a' u vs hI hold hdep
            obtain rfl : u = W.drew := hI
            have hg := hdep ⟨13, .guard⟩ (by simp) rfl (by decide)
            have eg := hg.1.trans (hg.2 _ rfl)
            have h14 := hdep ⟨14, .data⟩ (by simp) rfl (by decide)
            have e14 := h14.1.trans (h14.2 _ rfl)
            have h19 := hdep ⟨19, .data⟩ (by simp) rfl (by decide)
            have e19 := h19.1.trans (h19.2 _ rfl)
            exact opAt_go (j := 13) (t := 59) (b := false) rfl rfl eg (wpIn_val (fun _ h => by cases h) (ex_neqI (.tmp 60) (.tmp 65) _ rfl e14 e19) ⟨_, rfl, fun x hx => Option.some.inj (Option.some.inj hx), rfl, rfl⟩)
        intro vs V2 hV2 hF
        subst hV2
        have f0 := hF 0 (by decide) _ rfl
        have f1 := hF 1 (by decide) _ rfl
        have f2 := hF 2 (by decide) _ rfl
        have f3 := hF 3 (by decide) _ rfl
        have f4 := hF 4 (by decide) _ rfl
        have f5 := hF 5 (by decide) _ rfl
        have f6 := hF 6 (by decide) _ rfl
        have f7 := hF 7 (by decide) _ rfl
        have f8 := hF 8 (by decide) _ rfl
        have f9 := hF 9 (by decide) _ rfl
        have f10 := hF 10 (by decide) _ rfl
        have f11 := hF 11 (by decide) _ rfl
        have f12 := hF 12 (by decide) _ rfl
        have f13 := hF 13 (by decide) _ rfl
        have f14 := hF 14 (by decide) _ rfl
        have f15 := hF 15 (by decide) _ rfl
        have f16 := hF 16 (by decide) _ rfl
        have f17 := hF 17 (by decide) _ rfl
        have f18 := hF 18 (by decide) _ rfl
        have f19 := hF 19 (by decide) _ rfl
        have f20 := hF 20 (by decide) _ rfl
        simp only [List.drop_succ_cons, List.drop_zero, puts, List.range, List.range.loop, List.foldr, Nat.reduceAdd, if_true, f0, f1, f2, f3, f4, f5, f6, f7, f8, f9, f10, f11, f12, f13, f14, f15, f16, f17, f18, f19, f20, Act.put, List.setIfInBounds_toArray, List.set_cons_zero, List.set_cons_succ]
        clear hF f0 f1 f2 f3 f4 f5 f6 f7 f8 f9 f10 f11 f12 f13 f14 f15 f16 f17 f18 f19 f20
        gi_wp2
        exact HFIN.out _ (by rfl) (by rfl) (by rfl) (by rfl)
      case done1 =>
        rintro D1 W hD ⟨i1, i2, i3, i4⟩ hK
        have hwb := HKZ0.out.below i2
        have n0 : W.cell? ⟨Z0.heap.size, 0, none⟩ = some (.int .i64 ((entsIn (ents m.tr) x y).length : Int)) := by rw [cell_of_row _ _ _ _ _ _ i3]; rfl
        have l0 : W.cell? ⟨Z0.heap.size + 1, 0, none⟩ = some (.bool false) := by rw [cell_of_row _ _ _ _ _ _ i4]; rfl
        have r0 : W.cell? ⟨rbx1, 0, none⟩ = some (.int .i64 1) := by rw [cell_of_row _ _ _ _ _ _ (below_keeps i2 RR1.out (Array.getElem?_eq_some_iff.1 RR1.out).1)]; rfl
        obtain ⟨ao, nE, cap, hvw, HNE, hnc, hcm⟩ := hwb.en.shape
        have hwt := hwb.wt
        rw [hvw] at hwt
        have wt0 : W.cell? ⟨bw, 0, none⟩ = some (.slice ao nE cap) := by rw [cell_of_row _ _ _ _ _ _ hwt]; rfl
        rw [← HNE.out] at n0
        obtain ⟨Z1, HZ1⟩ : ∃ Z1, Hid (Z1 = W.alloc (.cells #[.int .i64 2] 3)) := ⟨_, rfl⟩
        have hbZ1 : Below W.heap.size W Z1 := by rw [HZ1.out]; exact (Below.refl _ _).alloc (Nat.le_refl _) _
        have HKZ1 := hid (hwb.below hbZ1)
        have RR2 : Hid (Z1.heap[W.heap.size]? = some (.cells #[.int .i64 2] 3)) := by rw [HZ1.out]; exact heap_alloc_new W _
        have HD1Z1 : Hid (Z1.heap[D1]? = some (.deferred (some []))) := below_keeps hbZ1 hK (Array.getElem?_eq_some_iff.1 hK).1
        have HDW1 := hid hD
        have HSW1 : Hid (w.heap.size + 2 ≤ W.heap.size) := by have h1 := (Array.getElem?_eq_some_iff.1 hwb.rs).1; unfold Hid; omega
        have HD0Z1 : Hid (Z1.heap[D0]? = some (.deferred (some []))) := by
          have h1 := (Array.getElem?_eq_some_iff.1 HD0Z0.out).1
          have h2 := below_keeps i2 HD0Z0.out h1
          exact below_keeps hbZ1 h2 (Array.getElem?_eq_some_iff.1 h2).1
        have HDS1 : Hid (w.heap.size + 2 ≤ D1) := by have h1 := (Array.getElem?_eq_some_iff.1 HKZ0.out.rs).1; have h2 := HSU1.out; unfold Hid; omega
        have HDN : Hid (D1 ≠ D0) := by have h1 := (Array.getElem?_eq_some_iff.1 HD0Z0.out).1; have h2 := HSU1.out; unfold Hid; omega
        obtain ⟨rbx2, Hrbx2⟩ : ∃ q, Hid (q = W.heap.size) := ⟨_, rfl⟩
        rw [← Hrbx2.out] at RR2
        clear hwb hwt i1 i2 i3 i4 hK hD hbZ1 hvw
        go_wp2_with fail
        rw [← HZ1.out, ← Hrbx2.out]
        have q0 : Z1.cell? ⟨rbx2, 0, none⟩ = some (.int .i64 2) := by rw [cell_of_row _ _ _ _ _ _ RR2.out]; rfl
        have hwb := HKZ1.out
        have rs0 : Z1.cell? ⟨w.heap.size + 1, 0, none⟩ = some (.bool false) := by rw [cell_of_row _ _ _ _ _ _ hwb.rs]; rfl
        have rsf : Z1.frozen? ⟨w.heap.size + 1, 0, none⟩ = false := frozen_of_row _ _ _ _ _ hwb.rs
        obtain ⟨Y2, hY2⟩ : ∃ Y2, Y2 = Z1.setCell ⟨w.heap.size + 1, 0, none⟩ (.bool true) := ⟨_, rfl⟩
        have bt : But (w.heap.size + 1) Z1 Y2 := by rw [hY2]; exact But.set _ _ _ _
        have hsz := (Array.getElem?_eq_some_iff.1 hwb.rs).1
        have RS : Hid (Y2.heap[w.heap.size + 1]? = some (.cells #[.bool true] 4)) := by rw [hY2]; exact set_row hwb.rs
        have HBY : Hid (Below w.heap.size w Y2) := bt.below hwb.bel (by omega) (by omega)
        have hd0 := HDW0.out
        have hd1 := HDW1.out
        have E0 : Hid (Y2.heap[D0]? = some (.deferred (some []))) := (bt.block _ (Array.getElem?_eq_some_iff.1 HD0Z1.out).1 (by have := HDS0.out; omega)).trans HD0Z1.out
        have E1 : Hid (Y2.heap[D1]? = some (.deferred (some []))) := (bt.block _ (Array.getElem?_eq_some_iff.1 HD1Z1.out).1 (by have := HDS1.out; omega)).trans HD1Z1.out
        have HY2 := hid hY2
        clear hwb hY2 bt hsz hd0 hd1
        rw [rounds_succ]
        go_wp2_with fail
        rw [← HY2.out]
        have hK0 := E0.out
        have hK1 := E1.out
        have hne : D1 ≠ D0 := HDN.out
        have hK0' : (Y2.putObj D1 (.deferred none)).heap[D0]? = some (.deferred (some [])) := (World.putObj_heap_other (fun e => hne e.symm)).trans hK0
        have hf1 : Below w.heap.size w (Y2.putObj D1 (.deferred none)) := HBY.out.trans (belowK_b (w := w) (Nat.le_refl _) Y2 D1 _ _ (by have := HDS1.out; omega) hK1 rfl rfl)
        have hf0 : Below w.heap.size w ((Y2.putObj D1 (.deferred none)).putObj D0 (.deferred none)) := hf1.trans (belowK_b (w := w) (Nat.le_refl _) _ D0 _ _ (by have := HDS0.out; omega) hK0' rfl rfl)
        have rz : ((Y2.putObj D1 (.deferred none)).putObj D0 (.deferred none)).heap[w.heap.size + 1]? = some (.cells #[.bool true] 4) := (World.putObj_heap_other (by have := HDS0.out; omega)).trans ((World.putObj_heap_other (by have := HDS1.out; omega)).trans RS.out)
        have g0 : ((Y2.putObj D1 (.deferred none)).putObj D0 (.deferred none)).cell? ⟨w.heap.size + 1, 0, none⟩ = some (.bool true) := by rw [cell_of_row _ _ _ _ _ _ rz]; rfl
        refine ⟨by simp, .inl ⟨_, _, rfl, run_takeDeferred hK1, by simp, .inl ⟨_, _, rfl, run_takeDeferred hK0', ?_⟩⟩⟩
        exact ⟨_, (by simp [results, Try.results21, go_sem, g0]), rfl, hf0⟩
      case stop1 =>
        rintro D c W hD h hK
        exact h.elim

end Go.Proofs.Ytmnafocmbcgdiac

/-
  plays: All, Within, Len.
-/
namespace Go.Proofs.Ytmnafocmbcgdiac
open Go.ChangeShapes Go.WideShapes Go.ChangeAt Go.RowKit Tri N
set_option maxHeartbeats 2000000
set_option maxRecDepth 100000

theorem plays_walk {w : World} {tb rb x A : Nat} {k s y a : Int} {v : Value} {t : Tr} {L : List (K × Int)} (hD : Duo w tb rb v t L) (hx : x < 4294967296) (hlen : L.length ≤ 4000000000000) (hk : k = 5 ∨ k = 6) :
    Calls Try.prog 8 #[.pointer (some ⟨tb, 0, none⟩), .pointer (some ⟨rb, 0, none⟩), .agg (oCells k s x y A a)] w fun e w' => e = .returned (.bool true) ∧ Stepped w w' tb rb v L.length := by
  obtain ⟨wa, HWA⟩ : ∃ wa, Hid (wa = w.alloc (.cells (oCells k s x y A a) 39)) := ⟨_, rfl⟩
  have hba : Below w.heap.size w wa := by rw [HWA.out]; exact (Below.refl _ _).alloc (Nat.le_refl _) _
  have r1 : wa.heap[w.heap.size]? = some (.cells (oCells k s x y A a) 39) := by rw [HWA.out]; exact heap_alloc_new w _
  have HC := hid (walks_any (k := k) (s := s) (y0 := y) (A := A) (a := a) (hD.below hba) hx hlen)
  have HBA := hid hba
  have HST : Hid (∀ w', Below w.heap.size w w' → Stepped w w' tb rb v L.length) := fun w' hb => Stepped.same hD hb
  have xx : ∀ (i : Nat) (u : Value), (oCells k s x y A a)[i]? = some u → wa.cell? ⟨w.heap.size, i, none⟩ = some u := fun i u hu => by rw [cell_of_row _ _ _ _ _ _ r1]; exact hu
  have x0 : wa.cell? ⟨w.heap.size, 0, none⟩ = some (.int .i64 k) := xx 0 _ rfl
  have x1 : wa.cell? ⟨w.heap.size, 1, none⟩ = some (.int .i64 s) := xx 1 _ rfl
  have x2 : wa.cell? ⟨w.heap.size, 2, none⟩ = some (.int .u32 (x : Int)) := xx 2 _ rfl
  have x3 : wa.cell? ⟨w.heap.size, 3, none⟩ = some (.int .i64 y) := xx 3 _ rfl
  have x4 : wa.cell? ⟨w.heap.size, 4, none⟩ = some (.int .u32 (A : Int)) := xx 4 _ rfl
  have x5 : wa.cell? ⟨w.heap.size, 5, none⟩ = some (.int .i64 a) := xx 5 _ rfl
  unfold oCells at HWA HC ⊢
  clear hba r1 hD xx hx hlen
  rcases hk with rfl | rfl
  · go_enter Try.func8, Try.ntmps8
    go_upto_region 1 with fail
    rw [← HWA.out]
    go_wp2_with fail
    refine HC.out.mono ?_
    rintro _ w1 ⟨rfl, hb1⟩
    have HS := hid (HST.out w1 (HBA.out.trans (hb1.mono HBA.out.size)))
    clear hb1 x0 x1 x2 x3 x4 x5
    go_wp2_with fail
    go_ret
    exact ⟨rfl, HS.out⟩
  · go_enter Try.func8, Try.ntmps8
    go_upto_region 1 with fail
    rw [← HWA.out]
    go_wp2_with fail
    refine HC.out.mono ?_
    rintro _ w1 ⟨rfl, hb1⟩
    have HS := hid (HST.out w1 (HBA.out.trans (hb1.mono HBA.out.size)))
    clear hb1 x0 x1 x2 x3 x4 x5
    go_wp2_with fail
    go_ret
    exact ⟨rfl, HS.out⟩

theorem playsOk_walks : PlaysOk 5 6 := fun _ _ _ _ _ k _ _ _ _ _ _ hD hx _ _ hlen hk => by
  by_cases h : k ≤ 3
  · exact plays_low hD hx hlen h
  · exact plays_walk hD hx hlen (by omega)
end Go.Proofs.Ytmnafocmbcgdiac

/-
  Forks: the nodes that hold nothing, counted at the first entry inside them.
-/
namespace Go.Proofs.Ytmnafocmbcgdiac
open Tri

def fk : Tr → List K
  | .nil => []
  | .node k u l r => (if u = none then [k] else []) ++ (fk l ++ fk r)

theorem nodes_fk (t : Tr) : nodes t = (ents t).length + (fk t).length := by
  induction t with
  | nil => rfl
  | node k u l r il ir =>
    rw [nodes, ents, fk]
    cases u with
    | none => simp [own]; omega
    | some v => simp [own]; omega

theorem fk_in {lo hi : Nat} {t : Tr} (h : WF lo hi t) : ∀ q ∈ fk t, q.Ok ∧ lo ≤ q.x ∧ q.x + q.s ≤ hi := by
  induction t generalizing lo hi with
  | nil => intro q hq; simp [fk] at hq
  | node k u l r il ir =>
    obtain ⟨a, b, c, d, e, f⟩ := h
    have h2 := h2_le k
    intro q hq
    rw [fk, List.mem_append, List.mem_append] at hq
    rcases hq with hq | hq | hq
    · split at hq
      · simp at hq; subst hq; exact ⟨a, b, c⟩
      · simp at hq
    · have := il d q hq; exact ⟨this.1, by omega, by omega⟩
    · have := ir e q hq; exact ⟨this.1, by omega, by omega⟩

theorem fk_nd {lo hi : Nat} {t : Tr} (h : WF lo hi t) : (fk t).Nodup := by
  induction t generalizing lo hi with
  | nil => exact List.nodup_nil
  | node k u l r il ir =>
    obtain ⟨a, b, c, d, e, f⟩ := h
    rw [fk, List.nodup_append, List.nodup_append]
    refine ⟨by split <;> simp, ⟨il d, ir e, fun x hx y hy he => ?_⟩, fun x hx y hy he => ?_⟩
    · have h1 := fk_in d x hx
      have h2 := fk_in e y hy
      have := y.s_pos
      rw [he] at h1
      omega
    · split at hx
      · simp at hx
        rw [hx] at he
        rcases List.mem_append.1 hy with hy | hy
        · exact kid_ne (e := (y, 0)) (fk_in d y hy) (.inl (Nat.le_refl _)) he.symm
        · exact kid_ne (e := (y, 0)) (fk_in e y hy) (.inr ⟨Nat.le_refl _, Nat.le_refl _⟩) he.symm
      · simp at hx

theorem some_ent {lo hi : Nat} {t : Tr} (h : WF lo hi t) (hn : t ≠ .nil) : ∃ e, e ∈ ents t := by
  induction t generalizing lo hi with
  | nil => exact absurd rfl hn
  | node k u l r il ir =>
    obtain ⟨a, b, c, d, e, f⟩ := h
    cases u with
    | some v => exact ⟨(k, v), by rw [ents]; simp [own]⟩
    | none =>
      obtain ⟨x, hx⟩ := il d (f rfl).1
      exact ⟨x, by rw [ents]; simp [hx]⟩

/-- A prefix that holds nothing, with an entry in each half. -/
def Forks (L : List (K × Int)) (q : K) : Prop := (∀ e ∈ L, e.1 ≠ q) ∧ (∃ e ∈ L, Ins e.1 (lowK q)) ∧ ∃ e ∈ L, Ins e.1 (highK q)

theorem fk_forks {lo hi : Nat} {t : Tr} (h : WF lo hi t) : ∀ q ∈ fk t, q.n < 32 ∧ Forks (ents t) q := by
  induction t generalizing lo hi with
  | nil => intro q hq; simp [fk] at hq
  | node k u l r il ir =>
    obtain ⟨a, b, c, d, e, f⟩ := h
    have h2 := h2_le k
    intro q hq
    rw [fk, List.mem_append, List.mem_append] at hq
    rcases hq with hq | hq | hq
    · split at hq
      · rename_i hu
        simp at hq
        subst hq
        obtain ⟨h3, h4⟩ := f hu
        obtain ⟨x, hx⟩ := some_ent d h3
        obtain ⟨y, hy⟩ := some_ent e h4
        have ix := ents_in d x hx
        have iy := ents_in e y hy
        have hxs := x.1.s_pos
        have h32 : q.n < 32 := by
          rcases Nat.lt_or_ge q.n 32 with h | h
          · exact h
          · have := (s_last (q := q) (by have := a.1; omega)).2
            omega
        refine ⟨h32, fun z hz => ?_, ⟨x, by rw [ents]; simp [hx], ?_⟩, ⟨y, by rw [ents]; simp [hy], ?_⟩⟩
        · rw [ents, hu, List.mem_append, List.mem_append] at hz
          rcases hz with hz | hz | hz
          · simp [own] at hz
          · exact kid_ne (ents_in d z hz) (.inl (Nat.le_refl _))
          · exact kid_ne (ents_in e z hz) (.inr ⟨Nat.le_refl _, Nat.le_refl _⟩)
        · have e1 := lowK_s h32
          exact ⟨ix.2.1, by show x.1.x + x.1.s ≤ q.x + (lowK q).s; omega⟩
        · have e1 := highK_s h32
          exact ⟨iy.2.1, by show y.1.x + y.1.s ≤ q.x + q.h + (highK q).s; omega⟩
      · simp at hq
    · have hq1 := fk_in d q hq
      have hqs := q.s_pos
      obtain ⟨h32, g1, ⟨x, hx, hx2⟩, ⟨y, hy, hy2⟩⟩ := il d q hq
      refine ⟨h32, fun z hz => ?_, ⟨x, by rw [ents]; simp [hx], hx2⟩, ⟨y, by rw [ents]; simp [hy], hy2⟩⟩
      rw [ents, List.mem_append, List.mem_append] at hz
      rcases hz with hz | hz | hz
      · rw [mem_own] at hz
        rw [hz.1]
        exact fun he => kid_ne (e := (q, 0)) hq1 (.inl (Nat.le_refl _)) he.symm
      · exact g1 z hz
      · intro he
        have := ents_in e z hz
        rw [he] at this
        omega
    · have hq1 := fk_in e q hq
      obtain ⟨h32, g1, ⟨x, hx, hx2⟩, ⟨y, hy, hy2⟩⟩ := ir e q hq
      refine ⟨h32, fun z hz => ?_, ⟨x, by rw [ents]; simp [hx], hx2⟩, ⟨y, by rw [ents]; simp [hy], hy2⟩⟩
      rw [ents, List.mem_append, List.mem_append] at hz
      rcases hz with hz | hz | hz
      · rw [mem_own] at hz
        rw [hz.1]
        exact fun he => kid_ne (e := (q, 0)) hq1 (.inr ⟨Nat.le_refl _, Nat.le_refl _⟩) he.symm
      · intro he
        have := ents_in d z hz
        have hqs := q.s_pos
        rw [he] at this
        omega
      · exact g1 z hz

theorem forks_fk {lo hi : Nat} {t : Tr} (h : WF lo hi t) {q : K} (hq : q.Ok) (h32 : q.n < 32) : Forks (ents t) q → q ∈ fk t := by
  induction t generalizing lo hi with
  | nil => rintro ⟨_, ⟨e, he, _⟩, _⟩; simp [ents] at he
  | node k u l r il ir =>
    have hW0 : WF k.x (k.x + k.s) (.node k u l r) := ⟨h.1, Nat.le_refl _, Nat.le_refl _, h.2.2.2⟩
    obtain ⟨a, b, c, d, e, f⟩ := h
    rintro ⟨g1, ⟨x, hx, hx2⟩, ⟨y, hy, hy2⟩⟩
    have ix := ents_in hW0 x hx
    have iy := ents_in hW0 y hy
    have hxs := x.1.s_pos
    have hys := y.1.s_pos
    have e1 := lowK_s h32
    have e2 := highK_s h32
    have e3 := s_two h32
    have x1 : q.x ≤ x.1.x := hx2.1
    have x2 : x.1.x + x.1.s ≤ q.x + q.h := by have := hx2.2; rw [e1] at this; exact this
    have y1 : q.x + q.h ≤ y.1.x := hy2.1
    have y2 : y.1.x + y.1.s ≤ q.x + q.h + q.h := by have := hy2.2; rw [e2] at this; exact this
    rw [fk, List.mem_append, List.mem_append]
    by_cases hkq : k = q
    · left
      subst hkq
      cases u with
      | none => simp
      | some v => exact absurd rfl (g1 (k, v) (by rw [ents]; simp [own]))
    · have hin : Ins q k := by
        rcases Nat.le_total k.n q.n with hn | hn
        · rcases nest hq a hn with h | h | h
          · exact h
          · omega
          · omega
        · rcases nest a hq hn with h | h | h
          · have := (halves a hq h hkq).2
            rcases this with h5 | ⟨h5, h6⟩ <;> omega
          · omega
          · omega
      have hh := (halves hq a hin (fun e => hkq e.symm)).2
      have notown : ∀ z : K × Int, Ins z.1 q → z.1.Ok → z ∉ own k u := fun z hz hzo hzk => by
        rw [mem_own] at hzk
        rw [hzk.1] at hz
        exact hkq (ins_anti a hq hz hin)
      have ixq : Ins x.1 q := ⟨x1, by omega⟩
      have iyq : Ins y.1 q := ⟨by omega, by omega⟩
      have sub : ∀ z ∈ ents l, z ∈ ents (Tr.node k u l r) := fun z hz => by rw [ents]; simp [hz]
      have sub2 : ∀ z ∈ ents r, z ∈ ents (Tr.node k u l r) := fun z hz => by rw [ents]; simp [hz]
      rw [ents, List.mem_append, List.mem_append] at hx hy
      rcases hh with hh | ⟨hh, hh2⟩
      · right; left
        refine il d ⟨fun z hz => g1 z (sub z hz), ⟨x, ?_, hx2⟩, ⟨y, ?_, hy2⟩⟩
        · rcases hx with hx | hx | hx
          · exact absurd hx (notown x ixq ix.1)
          · exact hx
          · have := ents_in e x hx; omega
        · rcases hy with hy | hy | hy
          · exact absurd hy (notown y iyq iy.1)
          · exact hy
          · have := ents_in e y hy; omega
      · right; right
        refine ir e ⟨fun z hz => g1 z (sub2 z hz), ⟨x, ?_, hx2⟩, ⟨y, ?_, hy2⟩⟩
        · rcases hx with hx | hx | hx
          · exact absurd hx (notown x ixq ix.1)
          · have := ents_in d x hx; omega
          · exact hx
        · rcases hy with hy | hy | hy
          · exact absurd hy (notown y iyq iy.1)
          · have := ents_in d y hy; omega
          · exact hy

/-- The first entry inside. -/
def fstL (L : List (K × Int)) (q : K) : Nat → Option Nat
  | 0 => none
  | n + 1 => match fstL L q n with
    | some i => some i
    | none => if (L[n]?.map (inP q)) = some true then some n else none

theorem fstL_none {L : List (K × Int)} {q : K} {n : Nat} (h : fstL L q n = none) : ∀ i e, i < n → L[i]? = some e → inP q e = false := by
  induction n with
  | zero => intro i e hi; omega
  | succ n ih =>
    intro i e hi he
    unfold fstL at h
    cases hq : fstL L q n with
    | some j => rw [hq] at h; cases h
    | none =>
      rw [hq] at h
      rcases Nat.lt_or_ge i n with h1 | h1
      · exact ih hq i e h1 he
      · obtain rfl : i = n := by omega
        rw [he] at h
        cases hp : inP q e with
        | false => rfl
        | true => simp [hp] at h

theorem fstL_some {L : List (K × Int)} {q : K} {n i : Nat} (h : fstL L q n = some i) : i < n ∧ ∃ e, L[i]? = some e ∧ inP q e = true := by
  induction n with
  | zero => cases h
  | succ n ih =>
    unfold fstL at h
    cases hq : fstL L q n with
    | some j =>
      rw [hq] at h
      obtain rfl : j = i := Option.some.inj h
      obtain ⟨h1, h2⟩ := ih hq
      exact ⟨by omega, h2⟩
    | none =>
      rw [hq] at h
      simp only at h
      split at h
      · obtain rfl : n = i := Option.some.inj h
        rename_i hh
        cases hL : L[n]? with
        | none => rw [hL] at hh; cases hh
        | some e =>
          rw [hL] at hh
          exact ⟨by omega, e, rfl, by simpa using hh⟩
      · cases h

theorem fstL_le {L : List (K × Int)} {q : K} {i j n : Nat} (h : fstL L q j = some i) (hn : j ≤ n) : fstL L q n = some i := by
  induction n with
  | zero => obtain rfl : j = 0 := by omega
            exact h
  | succ n ih =>
    rcases Nat.lt_or_ge j (n + 1) with h1 | h1
    · unfold fstL; rw [ih (by omega)]
    · obtain rfl : j = n + 1 := by omega
      exact h

/-- Is it a fork of the list? -/
def forkB (L : List (K × Int)) (q : K) : Bool := (posL L q L.length).isNone && ((fstL L (lowK q) L.length).isSome && (fstL L (highK q) L.length).isSome)

theorem fst_iff {L : List (K × Int)} {q : K} (hL : ∀ e ∈ L, e.1.Ok) (hq : q.Ok) : (fstL L q L.length).isSome = true ↔ ∃ e ∈ L, Ins e.1 q := by
  constructor
  · intro h
    obtain ⟨i, hi⟩ := Option.isSome_iff_exists.1 h
    obtain ⟨_, e, he, hp⟩ := fstL_some hi
    have hm := List.mem_of_getElem? he
    exact ⟨e, hm, (inP_ins hq (hL e hm)).1 hp⟩
  · rintro ⟨e, he, hin⟩
    cases hf : fstL L q L.length with
    | some i => rfl
    | none =>
      obtain ⟨i, hi⟩ := List.getElem?_of_mem he
      have := fstL_none hf i e (List.getElem?_eq_some_iff.1 hi).1 hi
      rw [(inP_ins hq (hL e he)).2 hin] at this
      cases this

theorem pos_iff {L : List (K × Int)} {q : K} : (posL L q L.length).isNone = true ↔ ∀ e ∈ L, e.1 ≠ q := by
  constructor
  · intro h e he
    obtain ⟨i, hi⟩ := List.getElem?_of_mem he
    exact posL_none (Option.isNone_iff_eq_none.1 h) i e (List.getElem?_eq_some_iff.1 hi).1 hi
  · intro h
    cases hp : posL L q L.length with
    | none => rfl
    | some i =>
      obtain ⟨_, v, hv⟩ := posL_some hp
      exact absurd rfl (h _ (List.mem_of_getElem? hv))

theorem forkB_iff {L : List (K × Int)} {q : K} (hL : ∀ e ∈ L, e.1.Ok) (hq : q.Ok) (h32 : q.n < 32) : forkB L q = true ↔ Forks L q := by
  unfold forkB Forks
  rw [Bool.and_eq_true, Bool.and_eq_true, pos_iff, fst_iff hL (lowK_ok hq h32), fst_iff hL (highK_ok hq h32)]

/-- p cut off at the length k. -/
def cutK (p : K) (k : Nat) : K := ⟨p.x / 2 ^ (32 - k) * 2 ^ (32 - k), k⟩

theorem cutK_ok {p : K} (hp : p.Ok) {k : Nat} (hk : k ≤ 32) : (cutK p k).Ok := by
  refine ⟨hk, Nat.dvd_mul_left _ _, ?_⟩
  have := Nat.div_mul_le_self p.x (2 ^ (32 - k))
  have := hp.2.2
  show p.x / 2 ^ (32 - k) * 2 ^ (32 - k) < _
  omega

theorem cutK_in {p q : K} (hq : q.Ok) (hin : Ins p q) : cutK p q.n = q := by
  refine K.ext' ?_ rfl
  show p.x / q.s * q.s = q.x
  have hs := q.s_pos
  have hps := p.s_pos
  obtain ⟨c, hc⟩ := hq.2.1
  have h1 := hin.1
  have h2 := hin.2
  have : p.x / q.s = c := by
    refine Nat.div_eq_of_lt_le (by rw [Nat.mul_comm]; omega) ?_
    rw [Nat.succ_mul, Nat.mul_comm c]
    omega
  rw [this, hc, Nat.mul_comm]

def okP (L : List (K × Int)) (p : K) (i k : Nat) : Bool := decide (fstL L (cutK p k) L.length = some i) && forkB L (cutK p k)

theorem filter_lt {α : Type} (l : List α) (f : α → Nat) (i : Nat) : (l.filter fun x => decide (f x < i + 1)).length = (l.filter fun x => decide (f x < i)).length + (l.filter fun x => decide (f x = i)).length := by
  induction l with
  | nil => rfl
  | cons x l ih =>
    simp only [List.filter_cons]
    by_cases h1 : f x < i
    · simp [show f x < i + 1 by omega, h1, show f x ≠ i by omega]; omega
    · by_cases h2 : f x = i
      · simp [h2]; omega
      · simp [show ¬ f x < i + 1 by omega, h1, h2]; omega

def fN (L : List (K × Int)) (q : K) : Nat := (fstL L q L.length).getD L.length

/-- How many forks have their first entry ahead of the i-th. -/
def ahead (t : Tr) (i : Nat) : Nat := ((fk t).filter fun q => decide (fN (ents t) q < i)).length

theorem ahead_zero (t : Tr) : ahead t 0 = 0 := by simp [ahead]

theorem fk_first {lo hi : Nat} {t : Tr} (h : WF lo hi t) {q : K} (hq : q ∈ fk t) : ∃ i e, fstL (ents t) q (ents t).length = some i ∧ (ents t)[i]? = some e ∧ Ins e.1 q ∧ q.n < e.1.n := by
  have hL : ∀ e ∈ ents t, e.1.Ok := fun e he => (ents_in h e he).1
  have hqo := (fk_in h q hq).1
  obtain ⟨h32, g1, ⟨x, hx, hx2⟩, _⟩ := fk_forks h q hq
  have hlow : Ins (lowK q) q := ⟨Nat.le_refl _, by have := lowK_s h32; have := s_two h32; show q.x + (lowK q).s ≤ q.x + q.s; omega⟩
  have := (fst_iff hL hqo).2 ⟨x, hx, hx2.trans hlow⟩
  obtain ⟨i, hi⟩ := Option.isSome_iff_exists.1 this
  obtain ⟨_, e, he, hp⟩ := fstL_some hi
  have hm := List.mem_of_getElem? he
  have hin := (inP_ins hqo (hL e hm)).1 hp
  exact ⟨i, e, hi, he, hin, (halves (hL e hm) hqo hin (g1 e hm)).1⟩

theorem ahead_all {lo hi : Nat} {t : Tr} (h : WF lo hi t) : ahead t (ents t).length = (fk t).length := by
  unfold ahead
  rw [List.filter_eq_self.2]
  intro q hq
  obtain ⟨i, e, h1, h2, _⟩ := fk_first h hq
  have := (fstL_some h1).1
  unfold fN
  rw [h1]
  simpa using this

theorem ahead_step {lo hi : Nat} {t : Tr} (h : WF lo hi t) {i : Nat} {e : K × Int} (he : (ents t)[i]? = some e) : ahead t (i + 1) = ahead t i + ((List.range e.1.n).filter (okP (ents t) e.1 i)).length := by
  have hL : ∀ e ∈ ents t, e.1.Ok := fun e he => (ents_in h e he).1
  have heo := hL e (List.mem_of_getElem? he)
  have hil := (List.getElem?_eq_some_iff.1 he).1
  unfold ahead
  rw [filter_lt]
  congr 1
  have hmap : ((List.range e.1.n).filter (okP (ents t) e.1 i)).length = (((List.range e.1.n).filter (okP (ents t) e.1 i)).map (cutK e.1)).length := by rw [List.length_map]
  rw [hmap]
  refine List.Perm.length_eq ((List.perm_ext_iff_of_nodup ((fk_nd h).filter _) ?_).2 fun q => ?_)
  · unfold List.Nodup
    rw [List.pairwise_map]
    refine List.Pairwise.imp (fun hab he => ?_) (List.Pairwise.filter _ List.nodup_range)
    exact hab (congrArg K.n he)
  · rw [List.mem_filter, List.mem_map]
    constructor
    · rintro ⟨hq, hf⟩
      obtain ⟨j, f, h1, h2, h3, h4⟩ := fk_first h hq
      have hji : j = i := by
        unfold fN at hf
        rw [h1] at hf
        simpa using hf
      subst hji
      rw [he] at h2
      cases h2
      have hqo := (fk_in h q hq).1
      obtain ⟨h32, hfk⟩ := fk_forks h q hq
      have hc := cutK_in hqo h3
      refine ⟨q.n, List.mem_filter.2 ⟨List.mem_range.2 h4, ?_⟩, hc⟩
      unfold okP
      rw [hc, h1, (forkB_iff hL hqo h32).2 hfk]
      simp
    · rintro ⟨k, hk, rfl⟩
      obtain ⟨hk1, hk2⟩ := List.mem_filter.1 hk
      have hk3 := List.mem_range.1 hk1
      have hk4 : k < 32 := by have := heo.1; omega
      unfold okP at hk2
      simp only [Bool.and_eq_true, decide_eq_true_eq] at hk2
      have hco := cutK_ok heo (k := k) (by omega)
      refine ⟨forks_fk h hco hk4 ((forkB_iff hL hco hk4).1 hk2.2), ?_⟩
      unfold fN
      rw [hk2.1]
      simp
end Go.Proofs.Ytmnafocmbcgdiac

/-
  The reference: Len, first, forks.
-/
namespace Go.Proofs.Ytmnafocmbcgdiac
open Go.ChangeShapes Go.WideShapes Go.ChangeAt Go.RowKit Go.Shelf Tri N
set_option maxHeartbeats 4000000
set_option maxRecDepth 100000

theorem lenR_any {rb : Nat} {v : Value} {L : List (K × Int)} (w : World) (hR : RefAt w rb v L) :
    Calls Try.prog 22 #[.pointer (some ⟨rb, 0, none⟩)] w fun e w' => e = .returned (.int .i64 (L.length : Int)) ∧ w' = w := by
  obtain ⟨ao, n, cap, rfl, HN, hn1, hn2⟩ := hR.2.1.shape
  have t0 : w.cell? ⟨rb, 0, none⟩ = some (.slice ao n cap) := by rw [cell_of_row _ _ _ _ _ _ hR.1]; rfl
  clear hR
  go_enter Try.func22, Try.ntmps22
  go_wp2_with fail
  go_ret
  exact ⟨by rw [← HN.out]; rfl, rfl⟩

theorem firstR_any {rb : Nat} {v : Value} {L : List (K × Int)} (p : K) (w : World) (hR : RefAt w rb v L) (hp : p.Ok) :
    Calls Try.prog 36 #[.pointer (some ⟨rb, 0, none⟩), pv p] w fun e w' => e = .returned (.int .i64 (posI (fstL L p L.length))) ∧ Below w.heap.size w w' := by
  obtain ⟨ao, n, cap, rfl, HN, hn1, hn2⟩ := hR.2.1.shape
  obtain ⟨wa, hwa, hb0, hs0, r1, x0, x1⟩ := one_box w (.int .u32 (p.x : Int)) (.int .i64 (p.n : Int))
  have HR := hid (hR.below hb0)
  have HWA := hid hwa
  have HB0 := hid hb0
  have R1 := hid r1
  have HS := hid hs0
  have HP := hid hp
  rw [← HN.out]
  unfold maxLen at hn2
  unfold pv
  clear hR hwa r1 hb0 hs0 hp x0 x1
  go_enter Try.func36, Try.ntmps36
  go_upto_region 1 with fail
  rw [← HWA.out]
  go_upto_region 2 with fail
  go_loopw [5] (fun i wr => ∃ (j : Nat), i = .int .i64 (j : Int) ∧ j ≤ n ∧ Hid (fstL L p j = none) ∧ Hid (Below wa.heap.size wa wr)) (fun i _ => n - (intOf i).toNat)
  case atStart => exact ⟨0, rfl, by omega, rfl, Below.refl _ _⟩
  case round =>
    obtain ⟨j, rfl, hj, HF, HBR⟩ := hrel
    have hrr := HR.out.below HBR.out
    have t0 : wr.cell? ⟨rb, 0, none⟩ = some (.slice ao n cap) := by rw [cell_of_row _ _ _ _ _ _ hrr.1]; rfl
    have px := below_keeps HBR.out R1.out (by have := HS.out; omega)
    by_cases hjn : j < n
    · have b1 : (j : Int) < (n : Int) := by omega
      have b2 : (0 : Int) ≤ (j : Int) := by omega
      obtain ⟨g, e, hao, hg, he, c0, c1, _⟩ := hrr.2.1.at j hjn
      subst hao
      obtain ⟨k, v⟩ := e
      simp only at c0 c1
      have hek : k.Ok := hrr.2.2 _ (List.mem_of_getElem? he)
      have hrb : rb < wr.heap.size := (Array.getElem?_eq_some_iff.1 hrr.1).1
      have t1 : ∀ t : Beh wr, t.wd.cell? ⟨rb, 0, none⟩ = some (.slice (some ⟨g, 0, none⟩) n cap) := fun t => (t.ok.cell (p := ⟨rb, 0, none⟩) hrb).trans t0
      have d0 : ∀ t : Beh wr, t.wd.cell? ⟨g, j * 3, none⟩ = some (.int .u32 (k.x : Int)) := fun t => (t.ok.cell (p := ⟨g, _, none⟩) hg).trans c0
      have d1 : ∀ t : Beh wr, t.wd.cell? ⟨g, j * 3 + 1, none⟩ = some (.int .i64 (k.n : Int)) := fun t => (t.ok.cell (p := ⟨g, _, none⟩) hg).trans c1
      obtain ⟨q0, q1⟩ := Beh.two px
      have HH : ∀ t : Beh wr, Hid (Calls Try.prog 47 #[pv k, pv p] t.wd fun e w'' => e = .returned (.bool (inP p (k, v))) ∧ ∃ t' : Beh wr, w'' = t'.wd) := fun t => Calls.beh (insideR_any _ hek HP.out)
      unfold pv at HH
      have HE := hid he
      cases hk : inP p (k, v) with
      | false =>
        rw [hk] at HH
        have HRS : Hid (fstL L p (j + 1) = none) := by unfold Hid fstL; rw [HF.out, HE.out]; simp [hk]
        clear hk hrr px he hg hek hrb c0 c1
        go_upto_region 4 with fail
        refine wp_region_beh (by kernel_rfl) (by kernel_rfl) ?_
        repeat (go_big_quiet_step (first | (go_at_call 47; exact (HH _).out) | fail))
        refine wpQuiet_nil ?_
        rintro _ ⟨t, rfl⟩
        have HB2 : Hid (Below wa.heap.size wa t.wd) := HBR.out.trans (t.ok.mono HBR.out.size)
        clear t0 t1 d0 d1 q0 q1 HH
        go_wp2_with fail
        go_roundw
        case rel => exact ⟨j + 1, by go_num, by omega, HRS, HB2⟩
        case measure => simp [intOf]; omega
      | true =>
        rw [hk] at HH
        have HRS : Hid (fstL L p n = some j) := by
          refine fstL_le (j := j + 1) ?_ (by omega)
          unfold fstL; rw [HF.out, HE.out]; simp [hk]
        clear hk hrr px he hg hek hrb c0 c1
        go_upto_region 4 with fail
        refine wp_region_beh (by kernel_rfl) (by kernel_rfl) ?_
        repeat (go_big_quiet_step (first | (go_at_call 47; exact (HH _).out) | fail))
        refine wpQuiet_nil ?_
        rintro _ ⟨t, rfl⟩
        have HB2 : Hid (Below w.heap.size w t.wd) := HB0.out.trans ((HBR.out.trans (t.ok.mono HBR.out.size)).mono HB0.out.size)
        clear t0 t1 d0 d1 q0 q1 HH
        go_wp2_with fail
        go_ret
        exact ⟨ret_int (by rw [HRS.out]; rfl), HB2.out⟩
    · have b1 : ¬ (j : Int) < (n : Int) := by omega
      have HRS : Hid (fstL L p n = none) := by rw [show n = j by omega]; exact HF.out
      have HB1 : Hid (Below w.heap.size w wr) := HB0.out.trans (HBR.out.mono HB0.out.size)
      clear hrr px
      go_wp2_with fail
      go_ret
      exact ⟨ret_int (by rw [HRS.out]; rfl), HB1.out⟩

theorem posI_neg (o : Option Nat) : decide (posI o < 0) = o.isNone := by
  cases o with
  | none => rfl
  | some i => exact decide_eq_false (by show ¬ (i : Int) < 0; omega)

theorem posI_pos (o : Option Nat) : decide (0 ≤ posI o) = o.isSome := by
  cases o with
  | none => rfl
  | some i => simp [posI]

theorem ex_inc {o : Oper} {a : Act} {w : World} (x : Operand) (n : Nat) (hn : n ≤ 32) (ho : o.op = .binOp .add 3 x (.const (.int .i64 1)) 3) (hx : a.eval x = .int .i64 (n : Int)) : (execOp a.eval o).run Try.prog w = .ok (.value (.int .i64 ((n : Int) + 1))) w := by
  have h0 : a.eval (.const (.int .i64 1)) = .int .i64 1 := rfl
  simp only [execOp, ho, hx, h0]
  simp [go_sem, eqGuard]
  exact IntWalk.i64_in _ (by omega)
theorem ex_conv {o : Oper} {a : Act} {w : World} (x : Operand) (n : Nat) (hn : n < 4294967296) (ho : o.op = .convert 2 35 x) (hx : a.eval x = .int .i64 (n : Int)) : (execOp a.eval o).run Try.prog w = .ok (.value (.int .u32 (n : Int))) w := by
  simp only [execOp, ho, hx]
  simp [go_sem]
  exact IntWalk.u32_in _ (by omega)
theorem ex_up {o : Oper} {a : Act} {w : World} (x : Operand) (n : Nat) (hn : n < 4294967296) (ho : o.op = .convert 35 2 x) (hx : a.eval x = .int .u32 (n : Int)) : (execOp a.eval o).run Try.prog w = .ok (.value (.int .i64 (n : Int))) w := by
  simp only [execOp, ho, hx]
  simp [go_sem]
  exact IntWalk.i64_in _ (by omega)
theorem ex_add32 {o : Oper} {a : Act} {w : World} (x y : Operand) (m n r : Nat) (hr : m + n = r) (hn : r < 4294967296) (ho : o.op = .binOp .add 35 x y 35) (hx : a.eval x = .int .u32 (m : Int)) (hy : a.eval y = .int .u32 (n : Int)) : (execOp a.eval o).run Try.prog w = .ok (.value (.int .u32 (r : Int))) w := by
  subst hr
  simp only [execOp, ho, hx, hy]
  simp [go_sem, eqGuard]
  exact IntWalk.u32_in _ (by omega)
theorem ex_quo {o : Oper} {a : Act} {w : World} (x y : Operand) (m n r : Nat) (hr : m / n = r) (hm : m < 4294967296) (hn : 0 < n) (ho : o.op = .binOp .quo 2 x y 2) (hx : a.eval x = .int .i64 (m : Int)) (hy : a.eval y = .int .i64 (n : Int)) : (execOp a.eval o).run Try.prog w = .ok (.value (.int .i64 (r : Int))) w := by
  have h3 := Nat.div_le_self m n
  have h2 : ((m / n : Nat) : Int) = (m : Int) / (n : Int) := by simp
  rw [hr] at h2 h3
  simp only [execOp, ho, hx, hy]
  simp [go_sem, eqGuard]
  rw [if_neg (by omega), ← h2, IntWalk.i64_in _ (by omega)]
theorem ex_mul {o : Oper} {a : Act} {w : World} (x y : Operand) (m n r : Nat) (hr : m * n = r) (hn : r < 4294967296) (ho : o.op = .binOp .mul 2 x y 2) (hx : a.eval x = .int .i64 (m : Int)) (hy : a.eval y = .int .i64 (n : Int)) : (execOp a.eval o).run Try.prog w = .ok (.value (.int .i64 (r : Int))) w := by
  have h1 : ((m * n : Nat) : Int) = (m : Int) * (n : Int) := by simp
  rw [hr] at h1
  simp only [execOp, ho, hx, hy]
  simp [go_sem, eqGuard]
  rw [← h1]
  exact IntWalk.i64_in _ (by omega)
theorem ex_buildP {o : Oper} {a : Act} {w : World} (x y : Operand) (u v : Int) (ho : o.op = .build 37 #[(0, x), (1, y)]) (hx : a.eval x = .int .u32 u) (hy : a.eval y = .int .i64 v) : (execOp a.eval o).run Try.prog w = .ok (.value (.agg #[.int .u32 u, .int .i64 v])) w := by
  simp only [execOp, ho, List.map_toArray, List.map_cons, List.map_nil, hx, hy]
  simp [go_sem]
theorem ex_alloc {o : Oper} {a : Act} {w : World} (ho : o.op = .alloc 37) : (execOp a.eval o).run Try.prog w = .ok (.value (.pointer (some ⟨w.heap.size, 0, none⟩))) (w.alloc (.cells #[.int .u32 0, .int .i64 0] 37)) := by
  simp only [execOp, ho]
  simp [go_sem]

/-- Values that are known, and one new block. -/
def FA (l : List (Option Value)) (A B : Nat) (i : Nat) (x : Value) (u : World) : Prop := (∀ z, l[i]? = some (some z) → x = z) ∧ (i = A → ∃ b, x = .pointer (some ⟨b, 0, none⟩) ∧ B ≤ b ∧ u.heap[b]? = some (.cells #[.int .u32 0, .int .i64 0] 37))

theorem FA.keeps (l : List (Option Value)) (A B : Nat) : ∀ (i : Nat) (x : Value) (w w' : World), FA l A B i x w → Below w.heap.size w w' → FA l A B i x w' := fun i x w w' h hb =>
  ⟨h.1, fun e => by obtain ⟨b, h1, h2, h3⟩ := h.2 e; exact ⟨b, h1, h2, below_keeps hb h3 (Array.getElem?_eq_some_iff.1 h3).1⟩⟩

def dstFo (i : Nat) : Tmp := [13, 14, 15, 16, 17, 18, 19, 20, 21, 22, 23, 24, 6].getD i 0
theorem dlFo {s : Nat} (h : s ∉ [13, 14, 15, 16, 17, 18, 19, 20, 21, 22, 23, 24, 6]) : ∀ j, j < 13 → dstFo j ≠ s := fun j hj e => h (by
  unfold dstFo at e
  rw [← e, List.getD_eq_getElem?_getD, List.getElem?_eq_getElem (by exact hj)]
  exact List.getElem_mem _)
def dstNo (i : Nat) : Tmp := [36, 37, 38, 39, 40, 41, 42, 43, 44, 45, 46, 47, 7].getD i 0
theorem dlNo {s : Nat} (h : s ∉ [36, 37, 38, 39, 40, 41, 42, 43, 44, 45, 46, 47, 7]) : ∀ j, j < 13 → dstNo j ≠ s := fun j hj e => h (by
  unfold dstNo at e
  rw [← e, List.getD_eq_getElem?_getD, List.getElem?_eq_getElem (by exact hj)]
  exact List.getElem_mem _)

theorem forksR_any {rb : Nat} {v : Value} {L : List (K × Int)} (p : K) (w : World) (hR : RefAt w rb v L) (hp : p.Ok) (h32 : p.n < 32) :
    Calls Try.prog 37 #[.pointer (some ⟨rb, 0, none⟩), pv p] w fun e w' => e = .returned (.bool (forkB L p)) ∧ Below w.heap.size w w' := by
  obtain ⟨wa, hwa, hb0, hs0, r1, x0, x1⟩ := one_box w (.int .u32 (p.x : Int)) (.int .i64 (p.n : Int))
  have hh : 2 ^ (32 - (p.n + 1)) = p.h := half_s h32
  have hhk := highK_ok hp h32
  have hlk := lowK_ok hp h32
  have hxh : p.x + p.h < 4294967296 := hhk.2.2
  have HSZ := fun u => hid (size_ref (p.n + 1) u (by omega))
  rw [hh] at HSZ
  obtain ⟨w2, hw2⟩ : ∃ w2, w2 = wa.alloc (.cells #[.int .u32 (p.x : Int), .int .i64 ((p.n + 1 : Nat) : Int)] 37) := ⟨_, rfl⟩
  have hb2 : Below wa.heap.size wa w2 := by rw [hw2]; exact (Below.refl _ _).alloc (Nat.le_refl _) _
  have r2 : w2.heap[wa.heap.size]? = some (.cells #[.int .u32 (p.x : Int), .int .i64 ((p.n + 1 : Nat) : Int)] 37) := by rw [hw2]; exact heap_alloc_new wa _
  have r12 := below_keeps hb2 r1 (by omega)
  have y0 : w2.cell? ⟨w.heap.size, 0, none⟩ = some (.int .u32 (p.x : Int)) := by rw [cell_of_row _ _ _ _ _ _ r12]; rfl
  have y1 : w2.cell? ⟨w.heap.size, 1, none⟩ = some (.int .i64 (p.n : Int)) := by rw [cell_of_row _ _ _ _ _ _ r12]; rfl
  have R12 := hid r12
  have L12 : Hid (w.heap.size < w2.heap.size) := (Array.getElem?_eq_some_iff.1 r12).1
  have R2 := hid r2
  have HBW2 : Hid (Below w.heap.size w w2) := hb0.trans (hb2.mono hb0.size)
  have HR := hid hR
  have HWA := hid hwa
  have HW2 := hid hw2
  have HP := hid hp
  have HLK := hid hlk
  have HHK := hid hhk
  have hp1 := hp.1
  have HFB : Hid (forkB L p = (decide (posI (posL L p L.length) < 0) && (decide (0 ≤ posI (fstL L (lowK p) L.length)) && decide (0 ≤ posI (fstL L (highK p) L.length))))) := by unfold Hid forkB; rw [posI_neg, posI_pos, posI_pos]
  unfold pv
  clear hR hwa r1 hb0 hs0 hw2 hb2 r2 r12 hhk hlk hh y0 y1
  have HHE : Hid (highK p = ⟨p.x + p.h, p.n + 1⟩) := rfl
  generalize p.h = S at *
  obtain ⟨q, HQ⟩ : ∃ q, Hid (p.x + S = q) := ⟨_, rfl⟩
  have HQL : Hid (q < 4294967296) := by rw [← HQ.out]; exact hxh
  have HSL : Hid (S < 4294967296) := by unfold Hid; omega
  clear hxh
  rw [HQ.out] at HHE
  go_enter Try.func37, Try.ntmps37
  go_upto_region 1 with fail
  rw [← HWA.out]
  go_upto_region 2 with fail
  have hn1 : ((p.n + 1 : Nat) : Int) = (p.n : Int) + 1 := by omega
  rw [hn1] at HW2 R2 HSZ
  rw [← HW2.out]
  clear hn1
  refine wp_region_mono' 13 dstFo (FA [some (.pointer (some ⟨w.heap.size, 0, none⟩)), some (.int .u32 (p.x : Int)), some (.pointer (some ⟨w.heap.size, 0 + 1, none⟩)), some (.int .i64 (p.n : Int)), some (.int .i64 ((p.n : Int) + 1)), some (.int .i64 (S : Int)), some (.int .u32 (S : Int)), some (.int .u32 (q : Int)), some (.pointer (some ⟨w.heap.size, 0 + 1, none⟩)), some (.int .i64 (p.n : Int)), some (.int .i64 ((p.n : Int) + 1)), some (.agg #[.int .u32 (q : Int), .int .i64 ((p.n : Int) + 1)]), none] 12 w2.heap.size) (by kernel_rfl) (by kernel_rfl) (FA.keeps _ _ _) ?_ ?_
  · simp only [List.take_succ_cons, List.take_zero, N.stepsOk]
    refine ⟨?_, ?_, ?_, ?_, ?_, ?_, ?_, ?_, ?_, ?_, ?_, ?_, ?_, trivial⟩
    · intro a u vs hb hold hdep
      exact wp_val (ex_field _ _ (.tmp 3) 0 _ rfl (hold 3 (dlFo (by decide))) ((fld_pr _).1)) ⟨_, rfl, ⟨fun z hz => Option.some.inj (Option.some.inj hz), fun h => absurd h (by decide)⟩, hb, Below.refl _ _⟩
    · intro a u vs hb hold hdep
      have h0 := hdep ⟨0, .data⟩ (by simp) rfl (by decide)
      have e0 := h0.1.trans (h0.2.1 _ rfl)
      have hr := below_keeps hb R12.out L12.out
      exact wp_val (ex_load _ _ (.tmp 13) _ rfl e0 (load_ad (by rw [cell_of_row _ _ _ _ _ _ hr]; rfl))) ⟨_, rfl, ⟨fun z hz => Option.some.inj (Option.some.inj hz), fun h => absurd h (by decide)⟩, hb, Below.refl _ _⟩
    · intro a u vs hb hold hdep
      exact wp_val (ex_field _ _ (.tmp 3) 1 _ rfl (hold 3 (dlFo (by decide))) ((fld_pr _).2)) ⟨_, rfl, ⟨fun z hz => Option.some.inj (Option.some.inj hz), fun h => absurd h (by decide)⟩, hb, Below.refl _ _⟩
    · intro a u vs hb hold hdep
      have h2 := hdep ⟨2, .data⟩ (by simp) rfl (by decide)
      have e2 := h2.1.trans (h2.2.1 _ rfl)
      have hr := below_keeps hb R12.out L12.out
      exact wp_val (ex_load _ _ (.tmp 15) _ rfl e2 (load_in (by rw [cell_of_row _ _ _ _ _ _ hr]; rfl))) ⟨_, rfl, ⟨fun z hz => Option.some.inj (Option.some.inj hz), fun h => absurd h (by decide)⟩, hb, Below.refl _ _⟩
    · intro a u vs hb hold hdep
      have h3 := hdep ⟨3, .data⟩ (by simp) rfl (by decide)
      have e3 := h3.1.trans (h3.2.1 _ rfl)
      exact wp_val (ex_inc (.tmp 16) _ hp1 rfl e3) ⟨_, rfl, ⟨fun z hz => Option.some.inj (Option.some.inj hz), fun h => absurd h (by decide)⟩, hb, Below.refl _ _⟩
    · intro a u vs hb hold hdep
      have h4 := hdep ⟨4, .data⟩ (by simp) rfl (by decide)
      have e4 := h4.1.trans (h4.2.1 _ rfl)
      have eA : a.eval (.tmp 17) = .int .i64 ((p.n : Int) + 1) := e4
      refine wp_call 35 _ _ rfl (enters_of Try.func35 (by kernel_rfl) rfl) #[.int .i64 ((p.n : Int) + 1)] (by simp only [List.map_toArray, List.map_cons, List.map_nil, eA]) ?_
      refine (HSZ u).out.mono ?_
      rintro _ u' ⟨rfl, rfl⟩
      exact ⟨_, rfl, _, rfl, ⟨fun z hz => Option.some.inj (Option.some.inj hz), fun h => absurd h (by decide)⟩, hb, Below.refl _ _⟩
    · intro a u vs hb hold hdep
      have h5 := hdep ⟨5, .data⟩ (by simp) rfl (by decide)
      have e5 := h5.1.trans (h5.2.1 _ rfl)
      exact wp_val (ex_conv (.tmp 18) _ HSL.out rfl e5) ⟨_, rfl, ⟨fun z hz => Option.some.inj (Option.some.inj hz), fun h => absurd h (by decide)⟩, hb, Below.refl _ _⟩
    · intro a u vs hb hold hdep
      have h1 := hdep ⟨1, .data⟩ (by simp) rfl (by decide)
      have e1 := h1.1.trans (h1.2.1 _ rfl)
      have h6 := hdep ⟨6, .data⟩ (by simp) rfl (by decide)
      have e6 := h6.1.trans (h6.2.1 _ rfl)
      exact wp_val (ex_add32 (.tmp 14) (.tmp 19) _ _ _ HQ.out HQL.out rfl e1 e6) ⟨_, rfl, ⟨fun z hz => Option.some.inj (Option.some.inj hz), fun h => absurd h (by decide)⟩, hb, Below.refl _ _⟩
    · intro a u vs hb hold hdep
      exact wp_val (ex_field _ _ (.tmp 3) 1 _ rfl (hold 3 (dlFo (by decide))) ((fld_pr _).2)) ⟨_, rfl, ⟨fun z hz => Option.some.inj (Option.some.inj hz), fun h => absurd h (by decide)⟩, hb, Below.refl _ _⟩
    · intro a u vs hb hold hdep
      have h8 := hdep ⟨8, .data⟩ (by simp) rfl (by decide)
      have e8 := h8.1.trans (h8.2.1 _ rfl)
      have hr := below_keeps hb R12.out L12.out
      exact wp_val (ex_load _ _ (.tmp 21) _ rfl e8 (load_in (by rw [cell_of_row _ _ _ _ _ _ hr]; rfl))) ⟨_, rfl, ⟨fun z hz => Option.some.inj (Option.some.inj hz), fun h => absurd h (by decide)⟩, hb, Below.refl _ _⟩
    · intro a u vs hb hold hdep
      have h9 := hdep ⟨9, .data⟩ (by simp) rfl (by decide)
      have e9 := h9.1.trans (h9.2.1 _ rfl)
      exact wp_val (ex_inc (.tmp 22) _ hp1 rfl e9) ⟨_, rfl, ⟨fun z hz => Option.some.inj (Option.some.inj hz), fun h => absurd h (by decide)⟩, hb, Below.refl _ _⟩
    · intro a u vs hb hold hdep
      have h7 := hdep ⟨7, .data⟩ (by simp) rfl (by decide)
      have e7 := h7.1.trans (h7.2.1 _ rfl)
      have h10 := hdep ⟨10, .data⟩ (by simp) rfl (by decide)
      have e10 := h10.1.trans (h10.2.1 _ rfl)
      exact wp_val (ex_buildP (.tmp 20) (.tmp 23) _ _ rfl e7 e10) ⟨_, rfl, ⟨fun z hz => Option.some.inj (Option.some.inj hz), fun h => absurd h (by decide)⟩, hb, Below.refl _ _⟩
    · intro a u vs hb hold hdep
      have hb' : Below u.heap.size u (u.alloc (.cells #[.int .u32 0, .int .i64 0] 37)) := (Below.refl _ _).alloc (Nat.le_refl _) _
      refine wp_val (v := .pointer (some ⟨u.heap.size, 0, none⟩)) (w' := u.alloc (.cells #[.int .u32 0, .int .i64 0] 37)) (ex_alloc rfl) ⟨_, rfl, ⟨fun z hz => (by cases hz), fun _ => ⟨_, rfl, hb.size, heap_alloc_new u _⟩⟩, hb.trans (hb'.mono hb.size), hb'⟩
  intro vs W3 hbW3 hF
  have f0 := (hF 0 (by decide)).1 _ rfl
  have f1 := (hF 1 (by decide)).1 _ rfl
  have f2 := (hF 2 (by decide)).1 _ rfl
  have f3 := (hF 3 (by decide)).1 _ rfl
  have f4 := (hF 4 (by decide)).1 _ rfl
  have f5 := (hF 5 (by decide)).1 _ rfl
  have f6 := (hF 6 (by decide)).1 _ rfl
  have f7 := (hF 7 (by decide)).1 _ rfl
  have f8 := (hF 8 (by decide)).1 _ rfl
  have f9 := (hF 9 (by decide)).1 _ rfl
  have f10 := (hF 10 (by decide)).1 _ rfl
  have f11 := (hF 11 (by decide)).1 _ rfl
  obtain ⟨bW3, f12, hgW3, rW3⟩ := (hF 12 (by decide)).2 rfl
  simp only [List.drop_succ_cons, List.drop_zero, puts, List.range, List.range.loop, List.foldr, if_true, dstFo, List.getD_cons_zero, List.getD_cons_succ, f0, f1, f2, f3, f4, f5, f6, f7, f8, f9, f10, f11, f12, Act.put, List.setIfInBounds_toArray, List.set_cons_zero, List.set_cons_succ]
  clear hF f0 f1 f2 f3 f4 f5 f6 f7 f8 f9 f10 f11 f12
  have f0 : W3.frozen? ⟨bW3, 0, none⟩ = false := frozen_of_row _ _ _ _ _ rW3
  have f1 : W3.frozen? ⟨bW3, 1, none⟩ = false := frozen_of_row _ _ _ _ _ rW3
  have g0 : W3.cell? ⟨bW3, 0, none⟩ = some (.int .u32 0) := by rw [cell_of_row _ _ _ _ _ _ rW3]; rfl
  have g1 : W3.cell? ⟨bW3, 1, none⟩ = some (.int .i64 0) := by rw [cell_of_row _ _ _ _ _ _ rW3]; rfl
  obtain ⟨W4, hW4⟩ : ∃ W4, W4 = (W3.setCell ⟨bW3, 0, none⟩ (.int .u32 (q : Int))).setCell ⟨bW3, 1, none⟩ (.int .i64 ((p.n : Int) + 1)) := ⟨_, rfl⟩
  have r4 : W4.heap[bW3]? = some (.cells #[.int .u32 (q : Int), .int .i64 ((p.n : Int) + 1)] 37) := by rw [hW4]; exact set_two' rW3
  have bt : But bW3 W3 W4 := by rw [hW4]; exact (But.set _ 0 _ _).trans (But.set _ 1 _ _)
  have hb4 : Below w2.heap.size w2 W4 := bt.below hbW3 hbW3.size hgW3
  have HW4 := hid hW4
  have HB4 := hid hb4
  have R4 := hid r4
  have r1 := below_keeps hb4 R12.out L12.out
  have r2 := below_keeps hb4 R2.out (Array.getElem?_eq_some_iff.1 R2.out).1
  have HBZ : Hid (Below w.heap.size w W4) := HBW2.out.trans (hb4.mono HBW2.out.size)
  have HRR := hid (HR.out.below HBZ.out)
  have R1 := hid r1
  have R2b := hid r2
  have x0 : W4.cell? ⟨w.heap.size, 0, none⟩ = some (.int .u32 (p.x : Int)) := by rw [cell_of_row _ _ _ _ _ _ r1]; rfl
  have x1 : W4.cell? ⟨w.heap.size, 1, none⟩ = some (.int .i64 (p.n : Int)) := by rw [cell_of_row _ _ _ _ _ _ r1]; rfl
  have HC1 := hid (find_ref p W4 HRR.out)
  have HLE : Hid (lowK p = ⟨p.x, p.n + 1⟩ ∧ highK p = ⟨q, p.n + 1⟩) := ⟨rfl, HHE.out⟩
  unfold pv at HC1
  clear hbW3 hgW3 rW3 hW4 bt hb4 r1 r2 r4
  go_upto_region 3 with fail
  rw [← HW4.out]
  clear f0 f1 g0 g1
  go_wp2_with fail
  refine HC1.out.mono ?_
  rintro _ W5 ⟨rfl, hb5⟩
  cases hP : posL L p L.length with
  | some i0 =>
    have HRS : Hid (forkB L p = false) := by unfold Hid forkB; rw [hP]; rfl
    have z1 : ¬ ((i0 : Int) < 0) := by omega
    have HB5 : Hid (Below w.heap.size w W5) := HBZ.out.trans (hb5.mono HBZ.out.size)
    clear hP hb5 x0 x1
    simp only [posI]
    go_wp2_with fail
    go_ret
    exact ⟨ret_bool HRS.out.symm, HB5.out⟩
  | none =>
    have HPN := hid hP
    have k2 := below_keeps hb5 R2b.out (Array.getElem?_eq_some_iff.1 R2b.out).1
    have k3 := below_keeps hb5 R4.out (Array.getElem?_eq_some_iff.1 R4.out).1
    have K3 := hid k3
    have y0 : W5.cell? ⟨wa.heap.size, 0, none⟩ = some (.int .u32 (p.x : Int)) := by rw [cell_of_row _ _ _ _ _ _ k2]; rfl
    have y1 : W5.cell? ⟨wa.heap.size, 1, none⟩ = some (.int .i64 ((p.n : Int) + 1)) := by rw [cell_of_row _ _ _ _ _ _ k2]; rfl
    have HB5 : Hid (Below w.heap.size w W5) := HBZ.out.trans (hb5.mono HBZ.out.size)
    have HR5 := hid (HR.out.below HB5.out)
    have hc2 := firstR_any (lowK p) W5 HR5.out HLK.out
    unfold pv at hc2
    have HC2 : Hid (Calls Try.prog 36 #[.pointer (some ⟨rb, 0, none⟩), .agg #[.int .u32 (p.x : Int), .int .i64 ((p.n : Int) + 1)]] W5 fun e w' => e = .returned (.int .i64 (posI (fstL L (lowK p) L.length))) ∧ Below W5.heap.size W5 w') := hc2
    clear hP hb5 x0 x1 k2 k3 hc2
    simp only [posI]
    go_wp2_with fail
    refine HC2.out.mono ?_
    rintro _ W6 ⟨rfl, hb6⟩
    have HB6 : Hid (Below w.heap.size w W6) := HB5.out.trans (hb6.mono HB5.out.size)
    cases hF : fstL L (lowK p) L.length with
    | none =>
      have HRS : Hid (forkB L p = false) := by unfold Hid forkB; rw [hF]; simp
      clear hF hb6 y0 y1
      simp only [posI]
      go_wp2_with fail
      go_ret
      exact ⟨ret_bool HRS.out.symm, HB6.out⟩
    | some i1 =>
      have z1 : (0 : Int) ≤ (i1 : Int) := by omega
      have k3 := below_keeps hb6 K3.out (Array.getElem?_eq_some_iff.1 K3.out).1
      have u0 : W6.cell? ⟨bW3, 0, none⟩ = some (.int .u32 (q : Int)) := by rw [cell_of_row _ _ _ _ _ _ k3]; rfl
      have u1 : W6.cell? ⟨bW3, 1, none⟩ = some (.int .i64 ((p.n : Int) + 1)) := by rw [cell_of_row _ _ _ _ _ _ k3]; rfl
      have HR6 := hid (HR.out.below HB6.out)
      have hc3 := firstR_any (highK p) W6 HR6.out HHK.out
      rw [HLE.out.2] at hc3
      unfold pv at hc3
      have HC3 : Hid (Calls Try.prog 36 #[.pointer (some ⟨rb, 0, none⟩), .agg #[.int .u32 (q : Int), .int .i64 ((p.n : Int) + 1)]] W6 fun e w' => e = .returned (.int .i64 (posI (fstL L ⟨q, p.n + 1⟩ L.length))) ∧ Below W6.heap.size W6 w') := hc3
      have HRS : Hid (forkB L p = decide (0 ≤ posI (fstL L ⟨q, p.n + 1⟩ L.length))) := by
        unfold Hid forkB
        rw [posI_pos, HPN.out, hF, HLE.out.2]
        simp
      clear hF hb6 y0 y1 hc3 k3
      generalize posI (fstL L ⟨q, p.n + 1⟩ L.length) = R at *
      simp only [posI]
      go_wp2_with fail
      refine HC3.out.mono ?_
      rintro _ W7 ⟨rfl, hb7⟩
      have HB7 : Hid (Below w.heap.size w W7) := HB6.out.trans (hb7.mono HB6.out.size)
      clear u0 u1 hb7
      go_wp2_with fail
      go_ret
      exact ⟨ret_bool HRS.out.symm, HB7.out⟩
end Go.Proofs.Ytmnafocmbcgdiac

/-
  The reference: Nodes; plays: Len, Nodes.
-/
namespace Go.Proofs.Ytmnafocmbcgdiac
open Go.ChangeShapes Go.WideShapes Go.ChangeAt Go.RowKit Go.Shelf Tri N
set_option maxHeartbeats 4000000
set_option maxRecDepth 100000

theorem okP_len (L : List (K × Int)) (p : K) (i k : Nat) (hk : k ≤ 32) : ((List.range k).filter (okP L p i)).length ≤ 32 := by
  refine Nat.le_trans (List.length_filter_le _ _) ?_
  rw [List.length_range]; exact hk

theorem okP_no {L : List (K × Int)} {p : K} {i k : Nat} (h : okP L p i k = false) : ((List.range (k + 1)).filter (okP L p i)).length = ((List.range k).filter (okP L p i)).length := by
  rw [List.range_succ, List.filter_append]
  simp [h]

theorem okP_yes {L : List (K × Int)} {p : K} {i k : Nat} (h : okP L p i k = true) : ((List.range (k + 1)).filter (okP L p i)).length = ((List.range k).filter (okP L p i)).length + 1 := by
  rw [List.range_succ, List.filter_append]
  simp [h]

theorem ahead_le {t : Tr} {i : Nat} : ahead t i ≤ nodes t := by
  rw [nodes_fk]
  unfold ahead
  exact Nat.le_trans (List.length_filter_le _ _) (Nat.le_add_left _ _)

theorem vals_len (t : Tr) : vals t = (ents t).length := by
  induction t with
  | nil => rfl
  | node k u l r il ir =>
    rw [vals, ents]
    cases u with
    | none => simp [own]; omega
    | some v => simp [own]; omega

theorem nodesR_any {rb : Nat} {v : Value} {t : Tr} (w : World) (hR : RefAt w rb v (ents t)) {lo hi : Nat} (hW : WF lo hi t) (hm : nodes t ≤ 10000000000) :
    Calls Try.prog 23 #[.pointer (some ⟨rb, 0, none⟩)] w fun e w' => e = .returned (.int .i64 (nodes t : Int)) ∧ Below w.heap.size w w' := by
  obtain ⟨L, hLe⟩ : ∃ L, L = ents t := ⟨_, rfl⟩
  have HLE := hid hLe
  rw [← hLe] at hR
  obtain ⟨ao, n, cap, rfl, HN, hn1, hn2⟩ := hR.2.1.shape
  have HR := hid hR
  have HW := hid hW
  have HM := hid hm
  have t00 : w.cell? ⟨rb, 0, none⟩ = some (.slice ao n cap) := by rw [cell_of_row _ _ _ _ _ _ hR.1]; rfl
  have hn5 : n ≤ 10000000000 := by
    have h1 := nodes_fk t
    rw [← hLe] at h1
    have h2 := HN.out
    omega
  unfold maxLen at hn2
  clear hR hW hm hLe
  go_enter Try.func23, Try.ntmps23
  go_upto_region 3 with fail
  clear t00
  go_loopw [3, 4] (fun s i wr => ∃ (j m : Nat), i = .int .i64 (j : Int) ∧ s = .int .i64 (m : Int) ∧ j ≤ n ∧ Hid (m = n + ahead t j) ∧ Hid (Below w.heap.size w wr)) (fun _ i _ => n - (intOf i).toNat)
  case atStart => exact ⟨0, n, rfl, rfl, by omega, by unfold Hid; rw [ahead_zero]; rfl, Below.refl _ _⟩
  case round =>
    obtain ⟨j, m, rfl, rfl, hj, HMM, HBR⟩ := hrel
    have hrr := HR.out.below HBR.out
    have t0 : wr.cell? ⟨rb, 0, none⟩ = some (.slice ao n cap) := by rw [cell_of_row _ _ _ _ _ _ hrr.1]; rfl
    by_cases hjn : j < n
    · have b1 : (j : Int) < (n : Int) := by omega
      have b2 : (0 : Int) ≤ (j : Int) := by omega
      obtain ⟨g, e, hao, hg, he, c0, c1, _⟩ := hrr.2.1.at j hjn
      subst hao
      obtain ⟨ek, ev⟩ := e
      simp only at c0 c1
      have hek : ek.Ok := hrr.2.2 _ (List.mem_of_getElem? he)
      have HEK := hid hek
      have HE := hid he
      have HXL : Hid (ek.x < 4294967296) := hek.2.2
      have hek1 := hek.1
      have HBASE : Hid (ahead t j ≤ nodes t) := ahead_le
      obtain ⟨v1, HV1⟩ : ∃ v1, Hid (v1 = wr.alloc (.cells #[.int .u32 (ek.x : Int), .int .i64 (ek.n : Int)] 37)) := ⟨_, rfl⟩
      have hbv : Below wr.heap.size wr v1 := by rw [HV1.out]; exact (Below.refl _ _).alloc (Nat.le_refl _) _
      obtain ⟨pbx, HPX⟩ : ∃ q, Hid (q = wr.heap.size) := ⟨_, rfl⟩
      have RP : Hid (v1.heap[pbx]? = some (.cells #[.int .u32 (ek.x : Int), .int .i64 (ek.n : Int)] 37)) := by unfold Hid; rw [HV1.out, HPX.out]; exact heap_alloc_new wr _
      have HLP : Hid (pbx < v1.heap.size) := (Array.getElem?_eq_some_iff.1 RP.out).1
      have HBV : Hid (Below w.heap.size w v1) := HBR.out.trans (hbv.mono HBR.out.size)
      have HGE : Hid (w.heap.size ≤ pbx) := by rw [HPX.out]; exact HBR.out.size
      clear hrr hek he hg hbv
      go_upto_region 6 with fail
      rw [← HV1.out, ← HPX.out]
      clear t0 c0 c1
      go_upto_region 7 with fail
      go_loopw [3, 6] (fun s i ws => ∃ (kk m2 : Nat), i = .int .i64 (kk : Int) ∧ s = .int .i64 (m2 : Int) ∧ kk ≤ ek.n ∧ Hid (m2 = m + ((List.range kk).filter (okP L ek j)).length) ∧ Hid (Below v1.heap.size v1 ws)) (fun _ i _ => ek.n - (intOf i).toNat)
      case atStart => exact ⟨0, m, rfl, rfl, by omega, rfl, Below.refl _ _⟩
      case round =>
        obtain ⟨kk, m2, rfl, rfl, hkk, HM2, HBS⟩ := hrel
        have rpv := below_keeps HBS.out RP.out HLP.out
        have RPV := hid rpv
        have LPV : Hid (pbx < wr.heap.size) := (Array.getElem?_eq_some_iff.1 rpv).1
        have p1 : wr.cell? ⟨pbx, 1, none⟩ = some (.int .i64 (ek.n : Int)) := by rw [cell_of_row _ _ _ _ _ _ rpv]; rfl
        clear rpv
        by_cases hlt : kk < ek.n
        · have b3 : (kk : Int) < (ek.n : Int) := by omega
          have hk32 : kk ≤ 32 := by omega
          have HSZ := fun u => hid (size_ref kk u hk32)
          have hbig : m2 ≤ 40000000000 := by
            have h1 := HM2.out
            have h2 := okP_len L ek j kk hk32
            have h3 := HMM.out
            have h4 := HBASE.out
            have h5 := HM.out
            omega
          have HCO : Hid ((cutK ek kk).Ok) := cutK_ok HEK.out hk32
          have HCN : Hid ((cutK ek kk).n < 32) := by show kk < 32; omega
          have hSp : 0 < 2 ^ (32 - kk) := Nat.pow_pos (by omega)
          have hcx : (cutK ek kk).x = ek.x / 2 ^ (32 - kk) * 2 ^ (32 - kk) := rfl
          obtain ⟨q, HQ⟩ : ∃ q, Hid (q = cutK ek kk) := ⟨_, rfl⟩
          rw [← HQ.out] at HCO HCN hcx
          have HQN : Hid (q.n = kk) := by unfold Hid; rw [HQ.out]; rfl
          generalize 2 ^ (32 - kk) = S at *
          have HSP := hid hSp
          obtain ⟨d, HD⟩ : ∃ d, Hid (ek.x / S = d) := ⟨_, rfl⟩
          rw [HD.out] at hcx
          obtain ⟨c, HC⟩ : ∃ c, Hid (d * S = c) := ⟨_, rfl⟩
          rw [HC.out] at hcx
          have HCX := hid hcx
          have HCL : Hid (c < 4294967296) := by rw [← HCX.out]; exact HCO.out.2.2
          clear hcx hSp
          go_upto_region 9 with fail
          clear p1
          refine wp_region_mono' 13 dstNo (FA [some (.pointer (some ⟨pbx, 0, none⟩)), some (.int .u32 (ek.x : Int)), some (.int .i64 (ek.x : Int)), some (.int .i64 (kk : Int)), some (.int .i64 (S : Int)), some (.int .i64 (d : Int)), some (.int .i64 (kk : Int)), some (.int .i64 (S : Int)), some (.int .i64 (c : Int)), some (.int .u32 (c : Int)), some (.int .i64 (kk : Int)), some (.agg #[.int .u32 (c : Int), .int .i64 (kk : Int)]), none] 12 wr.heap.size) (by kernel_rfl) (by kernel_rfl) (FA.keeps _ _ _) ?_ ?_
          · simp only [List.take_succ_cons, List.take_zero, N.stepsOk]
            refine ⟨?_, ?_, ?_, ?_, ?_, ?_, ?_, ?_, ?_, ?_, ?_, ?_, ?_, trivial⟩
            · intro a u vs hb hold hdep
              exact wp_val (ex_field _ _ (.tmp 5) 0 _ rfl (hold 5 (dlNo (by decide))) ((fld_pr _).1)) ⟨_, rfl, ⟨fun z hz => Option.some.inj (Option.some.inj hz), fun h => absurd h (by decide)⟩, hb, Below.refl _ _⟩
            · intro a u vs hb hold hdep
              have h0 := hdep ⟨0, .data⟩ (by simp) rfl (by decide)
              have e0 := h0.1.trans (h0.2.1 _ rfl)
              have hr := below_keeps hb RPV.out LPV.out
              exact wp_val (ex_load _ _ (.tmp 36) _ rfl e0 (load_ad (by rw [cell_of_row _ _ _ _ _ _ hr]; rfl))) ⟨_, rfl, ⟨fun z hz => Option.some.inj (Option.some.inj hz), fun h => absurd h (by decide)⟩, hb, Below.refl _ _⟩
            · intro a u vs hb hold hdep
              have h1 := hdep ⟨1, .data⟩ (by simp) rfl (by decide)
              have e1 := h1.1.trans (h1.2.1 _ rfl)
              exact wp_val (ex_up (.tmp 37) _ HXL.out rfl e1) ⟨_, rfl, ⟨fun z hz => Option.some.inj (Option.some.inj hz), fun h => absurd h (by decide)⟩, hb, Below.refl _ _⟩
            · intro a u vs hb hold hdep
              exact wp_val (ex_move (.tmp 6) _ rfl (hold 6 (dlNo (by decide)))) ⟨_, rfl, ⟨fun z hz => Option.some.inj (Option.some.inj hz), fun h => absurd h (by decide)⟩, hb, Below.refl _ _⟩
            · intro a u vs hb hold hdep
              have h3 := hdep ⟨3, .data⟩ (by simp) rfl (by decide)
              have e3 := h3.1.trans (h3.2.1 _ rfl)
              have eA : a.eval (.tmp 39) = .int .i64 (kk : Int) := e3
              refine wp_call 35 _ _ rfl (enters_of Try.func35 (by kernel_rfl) rfl) #[.int .i64 (kk : Int)] (by simp only [List.map_toArray, List.map_cons, List.map_nil, eA]) ?_
              refine (HSZ u).out.mono ?_
              rintro _ u' ⟨rfl, rfl⟩
              exact ⟨_, rfl, _, rfl, ⟨fun z hz => Option.some.inj (Option.some.inj hz), fun h => absurd h (by decide)⟩, hb, Below.refl _ _⟩
            · intro a u vs hb hold hdep
              have h2 := hdep ⟨2, .data⟩ (by simp) rfl (by decide)
              have e2 := h2.1.trans (h2.2.1 _ rfl)
              have h4 := hdep ⟨4, .data⟩ (by simp) rfl (by decide)
              have e4 := h4.1.trans (h4.2.1 _ rfl)
              exact wp_val (ex_quo (.tmp 38) (.tmp 40) _ _ _ HD.out HXL.out HSP.out rfl e2 e4) ⟨_, rfl, ⟨fun z hz => Option.some.inj (Option.some.inj hz), fun h => absurd h (by decide)⟩, hb, Below.refl _ _⟩
            · intro a u vs hb hold hdep
              exact wp_val (ex_move (.tmp 6) _ rfl (hold 6 (dlNo (by decide)))) ⟨_, rfl, ⟨fun z hz => Option.some.inj (Option.some.inj hz), fun h => absurd h (by decide)⟩, hb, Below.refl _ _⟩
            · intro a u vs hb hold hdep
              have h6 := hdep ⟨6, .data⟩ (by simp) rfl (by decide)
              have e6 := h6.1.trans (h6.2.1 _ rfl)
              have eA : a.eval (.tmp 42) = .int .i64 (kk : Int) := e6
              refine wp_call 35 _ _ rfl (enters_of Try.func35 (by kernel_rfl) rfl) #[.int .i64 (kk : Int)] (by simp only [List.map_toArray, List.map_cons, List.map_nil, eA]) ?_
              refine (HSZ u).out.mono ?_
              rintro _ u' ⟨rfl, rfl⟩
              exact ⟨_, rfl, _, rfl, ⟨fun z hz => Option.some.inj (Option.some.inj hz), fun h => absurd h (by decide)⟩, hb, Below.refl _ _⟩
            · intro a u vs hb hold hdep
              have h5 := hdep ⟨5, .data⟩ (by simp) rfl (by decide)
              have e5 := h5.1.trans (h5.2.1 _ rfl)
              have h7 := hdep ⟨7, .data⟩ (by simp) rfl (by decide)
              have e7 := h7.1.trans (h7.2.1 _ rfl)
              exact wp_val (ex_mul (.tmp 41) (.tmp 43) _ _ _ HC.out HCL.out rfl e5 e7) ⟨_, rfl, ⟨fun z hz => Option.some.inj (Option.some.inj hz), fun h => absurd h (by decide)⟩, hb, Below.refl _ _⟩
            · intro a u vs hb hold hdep
              have h8 := hdep ⟨8, .data⟩ (by simp) rfl (by decide)
              have e8 := h8.1.trans (h8.2.1 _ rfl)
              exact wp_val (ex_conv (.tmp 44) _ HCL.out rfl e8) ⟨_, rfl, ⟨fun z hz => Option.some.inj (Option.some.inj hz), fun h => absurd h (by decide)⟩, hb, Below.refl _ _⟩
            · intro a u vs hb hold hdep
              exact wp_val (ex_move (.tmp 6) _ rfl (hold 6 (dlNo (by decide)))) ⟨_, rfl, ⟨fun z hz => Option.some.inj (Option.some.inj hz), fun h => absurd h (by decide)⟩, hb, Below.refl _ _⟩
            · intro a u vs hb hold hdep
              have h9 := hdep ⟨9, .data⟩ (by simp) rfl (by decide)
              have e9 := h9.1.trans (h9.2.1 _ rfl)
              have h10 := hdep ⟨10, .data⟩ (by simp) rfl (by decide)
              have e10 := h10.1.trans (h10.2.1 _ rfl)
              exact wp_val (ex_buildP (.tmp 45) (.tmp 46) _ _ rfl e9 e10) ⟨_, rfl, ⟨fun z hz => Option.some.inj (Option.some.inj hz), fun h => absurd h (by decide)⟩, hb, Below.refl _ _⟩
            · intro a u vs hb hold hdep
              have hb' : Below u.heap.size u (u.alloc (.cells #[.int .u32 0, .int .i64 0] 37)) := (Below.refl _ _).alloc (Nat.le_refl _) _
              refine wp_val (v := .pointer (some ⟨u.heap.size, 0, none⟩)) (w' := u.alloc (.cells #[.int .u32 0, .int .i64 0] 37)) (ex_alloc rfl) ⟨_, rfl, ⟨fun z hz => (by cases hz), fun _ => ⟨_, rfl, hb.size, heap_alloc_new u _⟩⟩, hb.trans (hb'.mono hb.size), hb'⟩
          intro vs W3 hbW3 hF
          have f0 := (hF 0 (by decide)).1 _ rfl
          have f1 := (hF 1 (by decide)).1 _ rfl
          have f2 := (hF 2 (by decide)).1 _ rfl
          have f3 := (hF 3 (by decide)).1 _ rfl
          have f4 := (hF 4 (by decide)).1 _ rfl
          have f5 := (hF 5 (by decide)).1 _ rfl
          have f6 := (hF 6 (by decide)).1 _ rfl
          have f7 := (hF 7 (by decide)).1 _ rfl
          have f8 := (hF 8 (by decide)).1 _ rfl
          have f9 := (hF 9 (by decide)).1 _ rfl
          have f10 := (hF 10 (by decide)).1 _ rfl
          have f11 := (hF 11 (by decide)).1 _ rfl
          obtain ⟨bW3, f12, hgW3, rW3⟩ := (hF 12 (by decide)).2 rfl
          simp only [List.drop_succ_cons, List.drop_zero, puts, List.range, List.range.loop, List.foldr, if_true, dstNo, List.getD_cons_zero, List.getD_cons_succ, f0, f1, f2, f3, f4, f5, f6, f7, f8, f9, f10, f11, f12, Act.put, List.setIfInBounds_toArray, List.set_cons_zero, List.set_cons_succ]
          clear hF f0 f1 f2 f3 f4 f5 f6 f7 f8 f9 f10 f11 f12
          have f0 : W3.frozen? ⟨bW3, 0, none⟩ = false := frozen_of_row _ _ _ _ _ rW3
          have f1 : W3.frozen? ⟨bW3, 1, none⟩ = false := frozen_of_row _ _ _ _ _ rW3
          have g0 : W3.cell? ⟨bW3, 0, none⟩ = some (.int .u32 0) := by rw [cell_of_row _ _ _ _ _ _ rW3]; rfl
          have g1 : W3.cell? ⟨bW3, 1, none⟩ = some (.int .i64 0) := by rw [cell_of_row _ _ _ _ _ _ rW3]; rfl
          obtain ⟨W4, hW4⟩ : ∃ W4, W4 = (W3.setCell ⟨bW3, 0, none⟩ (.int .u32 (c : Int))).setCell ⟨bW3, 1, none⟩ (.int .i64 (kk : Int)) := ⟨_, rfl⟩
          have r4 : W4.heap[bW3]? = some (.cells #[.int .u32 (c : Int), .int .i64 (kk : Int)] 37) := by rw [hW4]; exact set_two' rW3
          have bt : But bW3 W3 W4 := by rw [hW4]; exact (But.set _ 0 _ _).trans (But.set _ 1 _ _)
          have hb4 : Below wr.heap.size wr W4 := bt.below hbW3 hbW3.size hgW3
          have HW4 := hid hW4
          have R4 := hid r4
          have HBV4 : Hid (Below v1.heap.size v1 W4) := HBS.out.trans (hb4.mono HBS.out.size)
          have HBW4 : Hid (Below w.heap.size w W4) := HBV.out.trans (HBV4.out.mono HBV.out.size)
          have HR4 := hid (HR.out.below HBW4.out)
          have x0 : W4.cell? ⟨bW3, 0, none⟩ = some (.int .u32 (c : Int)) := by rw [cell_of_row _ _ _ _ _ _ r4]; rfl
          have x1 : W4.cell? ⟨bW3, 1, none⟩ = some (.int .i64 (kk : Int)) := by rw [cell_of_row _ _ _ _ _ _ r4]; rfl
          have hc1 := firstR_any q W4 HR4.out HCO.out
          unfold pv at hc1
          rw [HCX.out, HQN.out] at hc1
          have HC1 := hid hc1
          have HOK : Hid (okP L ek j kk = (decide (fstL L q L.length = some j) && forkB L q)) := by unfold Hid okP; rw [← HQ.out]
          clear hbW3 hgW3 rW3 hW4 bt hb4 r4 hc1
          go_upto_region 10 with fail
          rw [← HW4.out]
          clear f0 f1 g0 g1
          go_wp2_with fail
          refine HC1.out.mono ?_
          rintro _ W5 ⟨rfl, hb5⟩
          have HBV5 : Hid (Below v1.heap.size v1 W5) := HBV4.out.trans (hb5.mono HBV4.out.size)
          by_cases hF : fstL L q L.length = some j
          · rw [hF]
            have z1 : ((j : Int) == (j : Int)) = true := by simp
            have k4 := below_keeps hb5 R4.out (Array.getElem?_eq_some_iff.1 R4.out).1
            have x0 : W5.cell? ⟨bW3, 0, none⟩ = some (.int .u32 (c : Int)) := by rw [cell_of_row _ _ _ _ _ _ k4]; rfl
            have x1 : W5.cell? ⟨bW3, 1, none⟩ = some (.int .i64 (kk : Int)) := by rw [cell_of_row _ _ _ _ _ _ k4]; rfl
            have HBW5 : Hid (Below w.heap.size w W5) := HBW4.out.trans (hb5.mono HBW4.out.size)
            have hc2 := forksR_any q W5 (HR.out.below HBW5.out) HCO.out HCN.out
            unfold pv at hc2
            rw [HCX.out, HQN.out] at hc2
            have HC2 := hid hc2
            clear hb5 k4 hc2
            simp only [posI]
            go_wp2_with fail
            refine HC2.out.mono ?_
            rintro _ W6 ⟨rfl, hb6⟩
            have HBV6 : Hid (Below v1.heap.size v1 W6) := HBV5.out.trans (hb6.mono HBV5.out.size)
            clear x0 x1 hb6
            cases hB : forkB L q with
            | true =>
              have HNX : Hid (m2 + 1 = m + ((List.range (kk + 1)).filter (okP L ek j)).length) := by
                have h := okP_yes (L := L) (p := ek) (i := j) (k := kk) (by rw [HOK.out, hF, hB]; simp)
                have := HM2.out
                unfold Hid; omega
              clear hB hF
              go_wp2_with fail
              go_roundw
              case rel => exact ⟨kk + 1, m2 + 1, by go_num, by go_num, by omega, HNX, HBV6⟩
              case measure => simp [intOf]; omega
            | false =>
              have HNX : Hid (m2 = m + ((List.range (kk + 1)).filter (okP L ek j)).length) := by
                have h := okP_no (L := L) (p := ek) (i := j) (k := kk) (by rw [HOK.out, hB]; simp)
                have := HM2.out
                unfold Hid; omega
              clear hB hF
              go_wp2_with fail
              go_roundw
              case rel => exact ⟨kk + 1, m2, by go_num, rfl, by omega, HNX, HBV6⟩
              case measure => simp [intOf]; omega
          · have z1 : (posI (fstL L q L.length) == (j : Int)) = false := by
              cases hq : fstL L q L.length with
              | none => simp only [posI, beq_eq_false_iff_ne]; omega
              | some i0 =>
                have : i0 ≠ j := fun e => hF (by rw [hq, e])
                simp only [posI, beq_eq_false_iff_ne]; omega
            have HNX : Hid (m2 = m + ((List.range (kk + 1)).filter (okP L ek j)).length) := by
              have h := okP_no (L := L) (p := ek) (i := j) (k := kk) (by rw [HOK.out]; simp [hF])
              have := HM2.out
              unfold Hid; omega
            clear hF hb5
            generalize posI (fstL L q L.length) = R at *
            go_wp2_with fail
            go_roundw
            case rel => exact ⟨kk + 1, m2, by go_num, rfl, by omega, HNX, HBV5⟩
            case measure => simp [intOf]; omega
        · have b3 : ¬ (kk : Int) < (ek.n : Int) := by omega
          have HNX : Hid (m2 = n + ahead t (j + 1)) := by
            have hkn : kk = ek.n := by omega
            have h1 := HM2.out
            rw [hkn] at h1
            have h2 := ahead_step HW.out (by rw [← HLE.out]; exact HE.out)
            rw [← HLE.out] at h2
            have h3 := HMM.out
            simp only at h2
            unfold Hid
            omega
          have HBN : Hid (Below w.heap.size w wr) := HBV.out.trans (HBS.out.mono HBV.out.size)
          go_wp2_with fail
          go_roundw
          case rel => exact ⟨j + 1, m2, by go_num, rfl, by omega, HNX, HBN⟩
          case measure => simp [intOf]; omega
    · have b1 : ¬ (j : Int) < (n : Int) := by omega
      have HRS : Hid (m = nodes t) := by
        have hjj : j = (ents t).length := by have := HN.out; rw [HLE.out] at this; omega
        have h1 := HMM.out
        rw [hjj, ahead_all HW.out] at h1
        have h2 := HN.out
        rw [HLE.out] at h2
        unfold Hid
        rw [nodes_fk, h1, h2]
      clear hrr
      go_wp2_with fail
      go_ret
      exact ⟨ret_int (by rw [HRS.out]), HBR.out⟩

theorem plays_len {w : World} {tb rb x A : Nat} {s y a : Int} {v : Value} {t : Tr} {L : List (K × Int)} (hD : Duo w tb rb v t L) :
    Calls Try.prog 8 #[.pointer (some ⟨tb, 0, none⟩), .pointer (some ⟨rb, 0, none⟩), .agg (oCells 7 s x y A a)] w fun e w' => e = .returned (.bool true) ∧ Stepped w w' tb rb v L.length := by
  obtain ⟨wa, HWA⟩ : ∃ wa, Hid (wa = w.alloc (.cells (oCells 7 s x y A a) 39)) := ⟨_, rfl⟩
  have hba : Below w.heap.size w wa := by rw [HWA.out]; exact (Below.refl _ _).alloc (Nat.le_refl _) _
  have hDa := hD.below hba
  have HC1 := hid (len_any wa hDa.tr)
  have HBA := hid hba
  have HDA := hid hDa
  have HVL : Hid (vals t = L.length) := by
    have hE : L = ents t := Same.eq hD.same hD.ris hD.tr.wf
    unfold Hid; rw [hE, vals_len]
  have HST : Hid (∀ w', Below w.heap.size w w' → Stepped w w' tb rb v L.length) := fun w' hb => Stepped.same hD hb
  unfold oCells at HWA ⊢
  clear hba hD hDa
  go_enter Try.func8, Try.ntmps8
  go_upto_region 1 with fail
  have x0 : wa.cell? ⟨w.heap.size, 0, none⟩ = some (.int .i64 7) := by
    rw [HWA.out, cell_of_row _ _ _ _ _ _ (heap_alloc_new w _)]; rfl
  rw [← HWA.out]
  go_wp2_with fail
  refine HC1.out.mono ?_
  rintro _ w1 ⟨rfl, hb1⟩
  have HC2 := hid (lenR_any w1 (HDA.out.ref.below hb1))
  have HS := hid (HST.out w1 (HBA.out.trans (hb1.mono HBA.out.size)))
  rw [HVL.out]
  clear hb1 x0
  go_wp2_with fail
  refine HC2.out.mono ?_
  rintro _ _ ⟨rfl, rfl⟩
  go_wp2_with fail
  go_ret
  exact ⟨rfl, HS.out⟩

theorem plays_nodes {w : World} {tb rb x A : Nat} {s y a : Int} {v : Value} {t : Tr} {L : List (K × Int)} (hD : Duo w tb rb v t L) :
    Calls Try.prog 8 #[.pointer (some ⟨tb, 0, none⟩), .pointer (some ⟨rb, 0, none⟩), .agg (oCells 8 s x y A a)] w fun e w' => e = .returned (.bool true) ∧ Stepped w w' tb rb v L.length := by
  obtain ⟨wa, HWA⟩ : ∃ wa, Hid (wa = w.alloc (.cells (oCells 8 s x y A a) 39)) := ⟨_, rfl⟩
  have hba : Below w.heap.size w wa := by rw [HWA.out]; exact (Below.refl _ _).alloc (Nat.le_refl _) _
  have hDa := hD.below hba
  have HC1 := hid (nodes_any wa hDa.tr)
  have HBA := hid hba
  have HE : Hid (L = ents t) := Same.eq hD.same hD.ris hD.tr.wf
  have hR := hDa.ref
  rw [HE.out] at hR
  have HRA := hid hR
  have HWF := hid hD.tr.wf
  have HNM : Hid (nodes t ≤ 10000000000) := by
    have h := WF_nodes HWF.out
    rw [show top.x = 0 from rfl, top_s] at h
    unfold Hid; omega
  have HST : Hid (∀ w', Below w.heap.size w w' → Stepped w w' tb rb v L.length) := fun w' hb => Stepped.same hD hb
  unfold oCells at HWA ⊢
  clear hba hD hDa hR
  go_enter Try.func8, Try.ntmps8
  go_upto_region 1 with fail
  have x0 : wa.cell? ⟨w.heap.size, 0, none⟩ = some (.int .i64 8) := by
    rw [HWA.out, cell_of_row _ _ _ _ _ _ (heap_alloc_new w _)]; rfl
  rw [← HWA.out]
  go_wp2_with fail
  refine HC1.out.mono ?_
  rintro _ w1 ⟨rfl, hb1⟩
  have HC2 := hid (nodesR_any w1 (HRA.out.below hb1) HWF.out HNM.out)
  have HB1 : Hid (Below w.heap.size w w1) := HBA.out.trans (hb1.mono HBA.out.size)
  clear hb1 x0
  go_wp2_with fail
  refine HC2.out.mono ?_
  rintro _ w2 ⟨rfl, hb2⟩
  have HS := hid (HST.out w2 (HB1.out.trans (hb2.mono HB1.out.size)))
  clear hb2
  go_wp2_with fail
  go_ret
  exact ⟨rfl, HS.out⟩

theorem playsOk_counts : PlaysOk 7 8 := fun _ _ _ _ _ k _ _ _ _ _ _ hD hx _ _ hlen hk => by
  by_cases h : k ≤ 3
  · exact plays_low hD hx hlen h
  · by_cases h7 : k = 7
    · subst h7; exact plays_len hD
    · obtain rfl : k = 8 := by omega
      exact plays_nodes hD

theorem playsOk_all : PlaysOk 1 8 := fun _ _ _ _ _ k _ _ _ _ _ _ hD hx hA _ hlen hk => by
  by_cases h : k ≤ 3
  · exact plays_low hD hx hlen h
  by_cases h4 : k = 4
  · subst h4; exact plays_find hD hA
  by_cases h56 : k = 5 ∨ k = 6
  · exact plays_walk hD hx hlen h56
  by_cases h7 : k = 7
  · subst h7; exact plays_len hD
  obtain rfl : k = 8 := by omega
  exact plays_nodes hD
end Go.Proofs.Ytmnafocmbcgdiac
