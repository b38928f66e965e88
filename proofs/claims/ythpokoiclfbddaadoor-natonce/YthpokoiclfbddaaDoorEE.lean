import Derived.Test.YthpokoiclfbddaaDoorRows
import Derived.WalkKit
import Derived.ProofKit
import Derived.OpenShut
import Derived.Deep.QuietTactic
import Derived.BigQuiet
import Derived.Deep.MidRow
import Derived.Laws.BitsAllLaws
import Derived.StillTail
import Derived.Shelf.Abstract
namespace Go.Proofs.YthpokoiclfbddaaDoor.N
open Go.ChangeShapes Go.WideShapes Go.ChangeAt Go.RowKit
set_option maxHeartbeats 2000000
set_option maxRecDepth 100000

theorem countP_point {L : List Nat} (hn : L.Nodup) {i : Nat} (hi : i ∈ L) {p q : Nat → Bool} (hpi : p i = true) (hqi : q i = false) (hne : ∀ j ∈ L, j ≠ i → q j = p j) : L.countP q + 1 = L.countP p := by
  induction L with
  | nil => cases hi
  | cons x L ih =>
    obtain ⟨hx0, hn'⟩ := List.nodup_cons.1 hn
    by_cases hx : x = i
    · subst hx
      have : L.countP q = L.countP p := List.countP_congr (fun j hj => by rw [hne j (List.mem_cons_of_mem _ hj) (fun e => hx0 (e ▸ hj))])
      rw [List.countP_cons, List.countP_cons, this, hpi, hqi]
      simp
    · have := ih hn' (by rcases List.mem_cons.1 hi with h | h; exact absurd h.symm hx; exact h) (fun j hj => hne j (List.mem_cons_of_mem _ hj))
      rw [List.countP_cons, List.countP_cons, hne x (List.mem_cons_self ..) hx]
      omega

def puts (a0 : Act) (dst : Nat → Tmp) (vs : Nat → Value) (p : Nat → Bool) (L : List Nat) : Act := L.foldr (fun i a => if p i then a.put (some (dst i)) (vs i) else a) a0

theorem puts_congr {a0 : Act} {dst : Nat → Tmp} {vs vs' : Nat → Value} {p p' : Nat → Bool} {L : List Nat} (h : ∀ i ∈ L, p' i = p i ∧ vs' i = vs i) : puts a0 dst vs' p' L = puts a0 dst vs p L := by
  induction L with
  | nil => rfl
  | cons x L ih =>
    have h1 := h x (List.mem_cons_self ..)
    have h2 := ih (fun i hi => h i (List.mem_cons_of_mem _ hi))
    simp only [puts, List.foldr_cons] at h2 ⊢
    rw [h2, h1.1, h1.2]

theorem put_comm (a : Act) {s t : Tmp} (h : s ≠ t) (x y : Value) : (a.put (some s) x).put (some t) y = (a.put (some t) y).put (some s) x := by
  simp only [Act.put]
  rw [Array.setIfInBounds_comm _ _ h]

theorem puts_set {a0 : Act} {dst : Nat → Tmp} {vs vs' : Nat → Value} {p p' : Nat → Bool} {i : Nat} {v : Value} : ∀ {L : List Nat}, L.Nodup → i ∈ L → p i = false → p' i = true → vs' i = v → (∀ j ∈ L, j ≠ i → p' j = p j ∧ vs' j = vs j ∧ dst j ≠ dst i) →
    (puts a0 dst vs p L).put (some (dst i)) v = puts a0 dst vs' p' L
  | [], _, hi, _, _, _, _ => by cases hi
  | x :: L, hn, hi, h1, h2, h3, h => by
    obtain ⟨hx0, hn'⟩ := List.nodup_cons.1 hn
    by_cases hx : x = i
    · subst hx
      have hc : puts a0 dst vs' p' L = puts a0 dst vs p L := puts_congr (fun j hj => by have := h j (List.mem_cons_of_mem _ hj) (fun e => hx0 (e ▸ hj)); exact ⟨this.1, this.2.1⟩)
      simp only [puts, List.foldr_cons] at hc ⊢
      rw [h1, h2, hc, h3]
      rfl
    · have ih := puts_set (a0 := a0) (dst := dst) (v := v) hn' (by rcases List.mem_cons.1 hi with e | e; exact absurd e.symm hx; exact e) h1 h2 h3 (fun j hj => h j (List.mem_cons_of_mem _ hj))
      have hh := h x (List.mem_cons_self ..) hx
      simp only [puts, List.foldr_cons] at ih ⊢
      rw [hh.1, hh.2.1, ← ih]
      cases p x with
      | true => simp only [if_true]; exact put_comm _ hh.2.2 _ _
      | false => rfl

theorem puts_size {a0 : Act} {dst : Nat → Tmp} {vs : Nat → Value} {p : Nat → Bool} {L : List Nat} : (puts a0 dst vs p L).tmps.size = a0.tmps.size := by
  induction L with
  | nil => rfl
  | cons x L ih =>
    simp only [puts, List.foldr_cons] at ih ⊢
    split
    · simp only [Act.put, Array.size_setIfInBounds]; exact ih
    · exact ih

theorem eval_put_ne (a : Act) {s t : Tmp} (h : s ≠ t) (v : Value) : (a.put (some t) v).eval (.tmp s) = a.eval (.tmp s) := by
  simp only [Act.put, Act.eval, Array.getD_eq_getD_getElem?]
  rw [Array.getElem?_setIfInBounds_ne (Ne.symm h)]

theorem eval_put_eq (a : Act) {t : Tmp} (h : t < a.tmps.size) (v : Value) : (a.put (some t) v).eval (.tmp t) = v := by
  simp [Act.put, Act.eval, h]

theorem puts_old {a0 : Act} {dst : Nat → Tmp} {vs : Nat → Value} {p : Nat → Bool} {s : Tmp} {L : List Nat} (h : ∀ j ∈ L, dst j ≠ s) : (puts a0 dst vs p L).eval (.tmp s) = a0.eval (.tmp s) := by
  induction L with
  | nil => rfl
  | cons x L ih =>
    have ih := ih (fun j hj => h j (List.mem_cons_of_mem _ hj))
    simp only [puts, List.foldr_cons] at ih ⊢
    split
    · rw [eval_put_ne _ (Ne.symm (h x (List.mem_cons_self ..)))]; exact ih
    · exact ih

theorem puts_at {a0 : Act} {dst : Nat → Tmp} {vs : Nat → Value} {p : Nat → Bool} {i : Nat} (hsz : dst i < a0.tmps.size) (hp : p i = true) : ∀ {L : List Nat}, i ∈ L → (∀ j ∈ L, j ≠ i → dst j ≠ dst i) → (puts a0 dst vs p L).eval (.tmp (dst i)) = vs i
  | [], hi, _ => by cases hi
  | x :: L, hi, h => by
    by_cases hx : x = i
    · subst hx
      have : dst x < (puts a0 dst vs p L).tmps.size := by rw [puts_size]; exact hsz
      simp only [puts, List.foldr_cons, hp, if_true] at this ⊢
      exact eval_put_eq _ this _
    · have ih := puts_at (vs := vs) hsz hp (L := L) (by rcases List.mem_cons.1 hi with e | e; exact absurd e.symm hx; exact e) (fun j hj => h j (List.mem_cons_of_mem _ hj))
      simp only [puts, List.foldr_cons] at ih ⊢
      split
      · rw [eval_put_ne _ (Ne.symm (h x (List.mem_cons_self ..) hx))]; exact ih
      · exact ih

def canon (m n : Nat) : Array Bool := ((List.range m).map fun i => decide (i < n)).toArray

def monoB (ops : Array Oper) (n : Nat) (dst : Nat → Tmp) (size : Nat) : Bool :=
  decide (n < ops.size) && Region.sinkB .any ops n && Region.chainB .any ops n && Region.seqB .any ops (ops.size - n) n (canon ops.size n) &&
  (List.range n).all (fun i => decide (dst i < size) && ((ops[i]?).map fun o => o.guard.isNone && decide (o.dst = some (dst i)) && o.after.all fun e => decide (e.on < i)).getD false && (List.range n).all fun j => decide (j = i) || decide (dst j ≠ dst i))

theorem wp_region_facts {P : Program} {id : Nat} {Q : Exit → Act → World → Prop} {a0 : Act} {W : World} {l : List Oper} (n : Nat) (dst : Nat → Tmp) (F : Nat → Value → World → Prop) (I : World → Prop) (R : Nat → World → World → Prop) (hm : P.follows .mixedOrders = true) (hB : monoB l.toArray n dst a0.tmps.size = true)
    (hI : I { W with drawn := W.drawn + 1 })
    (hF : ∀ i j v w w', i ≠ j → F i v w → I w → R j w w' → F i v w')
    (hstep : ∀ i o, i < n → l[i]? = some o → ∀ (a : Act) (w : World) (vs : Nat → Value), I w → (∀ s, (∀ j, j < n → dst j ≠ s) → a.eval (.tmp s) = a0.eval (.tmp s)) →
      (∀ e ∈ o.after, Region.binds .any e = true → e.on < n → a.eval (.tmp (dst e.on)) = vs e.on ∧ F e.on (vs e.on) w) →
      o.wp P a w (fun a' w' => ∃ v, a' = a.put (some (dst i)) v ∧ F i v w' ∧ I w' ∧ R i w w') Q)
    (hend : ∀ (vs : Nat → Value) (w : World), I w → (∀ i, i < n → F i (vs i) w) → wpList P l.toArray Q (l.drop n) (puts a0 dst vs (fun _ => true) (List.range n)) w) :
    (Code.region id l.toArray true).wp P Q a0 W := by
  simp only [monoB, Bool.and_eq_true, decide_eq_true_eq, List.all_eq_true, List.mem_range] at hB
  obtain ⟨⟨⟨⟨hn, hs⟩, hc⟩, hseq⟩, hall⟩ := hB
  have hinj : ∀ i, i < n → ∀ j, j < n → j ≠ i → dst j ≠ dst i := fun i hi j hj hne => by
    have := (hall i hi).2 j hj
    simp only [Bool.or_eq_true, decide_eq_true_eq] at this
    exact this.resolve_left hne
  have hop : ∀ i o, i < n → l.toArray[i]? = some o → (o.guard = none ∧ o.dst = some (dst i)) ∧ ∀ e ∈ o.after, e.on < i := fun i o hi ho => by
    have := (hall i hi).1.2
    rw [ho] at this
    simp only [Option.map_some, Option.getD_some, Bool.and_eq_true, Option.isNone_iff_eq_none, decide_eq_true_eq, Array.all_eq_true_iff_forall_mem] at this
    exact this
  refine wp_region_any hm ?_
  have main : ∀ (f : Nat) (listed : Array Bool) (vs : Nat → Value) (w : World), (List.range n).countP (fun j => !listed.getD j false) = f → HeadInv .any l.toArray n listed →
      I w → (∀ i, i < n → listed.getD i false = true → F i (vs i) w) →
      wpAny P .any l.toArray Q (f + (l.toArray.size - n)) listed (puts a0 dst vs (fun i => listed.getD i false) (List.range n)) w := by
    intro f
    induction f with
    | zero =>
      intro listed vs w hcnt inv hb hf
      have hall2 : ∀ i, i < n → listed.getD i false = true := fun i hi => by
        have := List.countP_eq_zero.1 hcnt i (List.mem_range.2 hi)
        simpa using this
      have hcan : listed = canon l.toArray.size n := by
        apply Array.ext
        · rw [inv.size]; simp [canon]
        · intro i h1 h2
          simp only [canon, List.getElem_toArray, List.getElem_map, List.getElem_range]
          by_cases hi : i < n
          · have := hall2 i hi
            simpa [h1, hi] using this
          · have := inv.tail i (by omega) (by rw [inv.size] at h1; exact h1)
            simpa [h1, hi] using this
      have he : puts a0 dst vs (fun i => listed.getD i false) (List.range n) = puts a0 dst vs (fun _ => true) (List.range n) := puts_congr (fun i hi => ⟨hall2 i (List.mem_range.1 hi), rfl⟩)
      rw [he, hcan, Nat.zero_add]
      have hdl : (l.drop n).length = l.toArray.size - n := by simp
      have := wpAny_of_seq (P := P) (ops := l.toArray) (md := .any) (Q' := Q) (l.drop n) n (canon l.toArray.size n) _ w (fun j => by simp [List.getElem?_drop]) (by rw [hdl]; exact hseq) (hend vs w hb (fun i hi => hf i hi (hall2 i hi)))
      rwa [hdl] at this
    | succ f ih =>
      intro listed vs w hcnt inv hb hf
      obtain ⟨i0, hi0, hu0⟩ : ∃ i, i < n ∧ listed.getD i false = false := by
        have hpos : 0 < (List.range n).countP (fun j => !listed.getD j false) := by omega
        obtain ⟨i, hi, hp⟩ := List.countP_pos_iff.1 hpos
        exact ⟨i, List.mem_range.1 hi, by simpa using hp⟩
      have hi0s : i0 < listed.size := by rw [inv.size]; omega
      have hwait := tail_waits hs hc hn inv _ i0 rfl hi0 (getD_in hi0s hu0)
      rw [show f + 1 + (l.toArray.size - n) = (f + (l.toArray.size - n)) + 1 by omega]
      refine ⟨fun h0 => ?_, fun i hi => ?_⟩
      · -- something is ready: the least that is not listed
        exfalso
        have hex : ∃ k, k < n ∧ listed.getD k false = false ∧ ∀ j, j < k → listed.getD j false = true := by
          have : ∀ m, (∃ j, j < m ∧ listed.getD j false = false) → ∃ k, k < m ∧ listed.getD k false = false ∧ ∀ j, j < k → listed.getD j false = true := by
            intro m
            induction m with
            | zero => rintro ⟨j, hj, _⟩; omega
            | succ m ihm =>
              rintro ⟨j, hj, hjf⟩
              by_cases hex : ∃ j, j < m ∧ listed.getD j false = false
              · obtain ⟨k, hk, h1, h2⟩ := ihm hex
                exact ⟨k, by omega, h1, h2⟩
              · refine ⟨m, by omega, ?_, fun j' hj' => ?_⟩
                · have : j = m := by
                    rcases Nat.lt_or_ge j m with h | h
                    · exact absurd ⟨j, h, hjf⟩ hex
                    · omega
                  rw [← this]; exact hjf
                · cases hq : listed.getD j' false with
                  | true => rfl
                  | false => exact absurd ⟨j', hj', hq⟩ hex
          exact this n ⟨i0, hi0, hu0⟩
        obtain ⟨k, hk, hku, hkl⟩ := hex
        have hks : k < l.toArray.size := by omega
        have hr : k ∈ Region.ready .any l.toArray listed := mem_ready.2 ⟨getD_in (by rw [inv.size]; exact hks) hku, _, Array.getElem?_eq_getElem hks, fun e he _ => hkl e.on ((hop k _ hk (Array.getElem?_eq_getElem hks)).2 e he)⟩
        rw [h0] at hr
        cases hr
      · have hin : i < n := by
          rcases Nat.lt_or_ge i n with h | h
          · exact h
          · exact absurd hi (hwait i h)
        obtain ⟨hun, o, ho, hdep⟩ := mem_ready.1 hi
        obtain ⟨⟨hg, hd⟩, _⟩ := hop i o hin ho
        have hiu := getD_both hun
        have his : i < listed.size := by rw [inv.size]; omega
        unfold wpOp
        simp only [ho, Region.wanted, hg, if_true]
        refine .inl ?_
        have H := hstep i o hin (by simpa using ho) (puts a0 dst vs (fun i => listed.getD i false) (List.range n)) w vs hb (fun s hs' => puts_old (fun j hj => hs' j (List.mem_range.1 hj))) (fun e he hbi hen => ⟨puts_at (by have := (hall e.on hen).1.1; simpa using this) (hdep e he hbi) (List.mem_range.2 hen) (fun j hj hne => hinj e.on hen j (List.mem_range.1 hj) hne), hf e.on hen (hdep e he hbi)⟩)
        refine Oper.wp_mono (fun a' w' ⟨v, ha', hfv, hiw, hbw⟩ => ?_) H
        rw [ha', puts_set (vs' := fun j => if j = i then v else vs j) (p' := fun j => (listed.setIfInBounds i true).getD j false) (List.nodup_range) (List.mem_range.2 hin) hiu (by simp [his]) (by simp) (fun j hj hne => ⟨getD_set_ne false (Ne.symm hne), by simp [hne], hinj i hin j (List.mem_range.1 hj) hne⟩)]
        refine ih _ _ w' ?_ (inv.set hi hin) hiw (fun j hj hlj => ?_)
        · have := countP_point (L := List.range n) List.nodup_range (List.mem_range.2 hin) (p := fun j => !listed.getD j false) (q := fun j => !(listed.setIfInBounds i true).getD j false) (by simp only [hiu]; rfl) (by simp [his]) (fun j _ hne => by simp only [getD_set_ne false (Ne.symm hne)])
          omega
        · by_cases hji : j = i
          · subst hji; simpa using hfv
          · simp only [hji, if_false]
            rw [getD_set_ne false (Ne.symm hji)] at hlj
            exact hF j i _ w w' hji (hf j hj hlj) hb hbw
  have inv0 : HeadInv .any l.toArray n (Array.replicate l.toArray.size false) :=
    ⟨by simp, fun j oj _ hl => (by rw [getD_replicate_false] at hl; cases hl), fun t _ ht => getD_in (by simpa using ht) (getD_replicate_false _ _)⟩
  have hcnt : (List.range n).countP (fun j => !(Array.replicate l.toArray.size false).getD j false) = n := by
    rw [List.countP_eq_length.2 (fun j _ => by rw [getD_replicate_false]; rfl), List.length_range]
  have H := main n _ (fun _ => undef) { W with drawn := W.drawn + 1 } hcnt inv0 hI (fun i _ h => by rw [getD_replicate_false] at h; cases h)
  have he : puts a0 dst (fun _ => undef) (fun i => (Array.replicate l.toArray.size false).getD i false) (List.range n) = a0 := by
    have : ∀ L : List Nat, puts a0 dst (fun _ => undef) (fun i => (Array.replicate l.toArray.size false).getD i false) L = a0 := by
      intro L
      induction L with
      | nil => rfl
      | cons x L ih =>
        simp only [puts, List.foldr_cons] at ih ⊢
        rw [getD_replicate_false, ih]
        rfl
    exact this _
  rw [he, show n + (l.toArray.size - n) = l.toArray.size by omega] at H
  exact H
theorem wp_call {P : Program} {o : Oper} {a : Act} {w : World} {K : Act → World → Prop} {Q : Exit → Act → World → Prop} (f : FuncId) (xs : Array Operand) (ts : Array TypeId) (ho : o.op = .call { callee := .value (.func f), args := xs, argTypes := ts })
    (hf : ∀ (args : Array Value) (w : World), (callFunc f args).run P w = .ok (.enter f args) w) (vs : Array Value) (hv : xs.map a.eval = vs) (h : Calls P f vs w fun e w' => ∃ v, e = .returned v ∧ K (a.put o.dst v) w') : o.wp P a w K Q := by
  unfold Oper.wp execOp
  simp [ho, resolve, invoke, Act.eval, hv, Deferred.ofValue, hf]
  exact h.mono fun e w' ⟨v, he, hk⟩ => by subst he; exact hk

theorem wp_load {P : Program} {o : Oper} {a : Act} {w : World} {K : Act → World → Prop} {Q : Exit → Act → World → Prop} (T : TypeId) (p : Addr) (x : Operand) (v : Value) (ho : o.op = .load T x) (hx : a.eval x = .pointer (some p))
    (hr : (Instr.loadAt T (.pointer (some p))).run P w = .ok v w) (h : K (a.put o.dst v) w) : o.wp P a w K Q := by
  unfold Oper.wp execOp
  simp only [ho, hx, Sem.run_bind, hr, Result.andThen_ok, Sem.run_pure]
  exact h

theorem wp_nil {P : Program} {o : Oper} {a : Act} {w : World} {K : Act → World → Prop} {Q : Exit → Act → World → Prop} (p : Addr) (x : Operand) (ho : o.op = .nilCheck x) (hx : a.eval x = .pointer (some p))
    (h : K (a.put o.dst (.pointer (some p))) w) : o.wp P a w K Q := by
  unfold Oper.wp execOp
  simp only [ho, hx]
  exact h

/-- The steps of a drawn region, one a goal. -/
def stepsOk (P : Program) (Q : Exit → Act → World → Prop) (a0 : Act) (n : Nat) (dst : Nat → Tmp) (F : Nat → Value → World → Prop) (I : World → Prop) (R : Nat → World → World → Prop) : Nat → List Oper → Prop
  | _, [] => True
  | i, o :: rest => (∀ (a : Act) (w : World) (vs : Nat → Value), I w → (∀ s, (∀ j, j < n → dst j ≠ s) → a.eval (.tmp s) = a0.eval (.tmp s)) →
      (∀ e ∈ o.after, Region.binds .any e = true → e.on < n → a.eval (.tmp (dst e.on)) = vs e.on ∧ F e.on (vs e.on) w) →
      o.wp P a w (fun a' w' => ∃ v, a' = a.put (some (dst i)) v ∧ F i v w' ∧ I w' ∧ R i w w') Q) ∧ stepsOk P Q a0 n dst F I R (i + 1) rest

theorem stepsOk.at {P : Program} {Q : Exit → Act → World → Prop} {a0 : Act} {n : Nat} {dst : Nat → Tmp} {F : Nat → Value → World → Prop} {I : World → Prop} {R : Nat → World → World → Prop} : ∀ (l : List Oper) (k : Nat), stepsOk P Q a0 n dst F I R k l → ∀ (i : Nat) (o : Oper), l[i]? = some o → ∀ (a : Act) (w : World) (vs : Nat → Value), I w → (∀ s, (∀ j, j < n → dst j ≠ s) → a.eval (.tmp s) = a0.eval (.tmp s)) →
      (∀ e ∈ o.after, Region.binds .any e = true → e.on < n → a.eval (.tmp (dst e.on)) = vs e.on ∧ F e.on (vs e.on) w) →
      o.wp P a w (fun a' w' => ∃ v, a' = a.put (some (dst (k + i))) v ∧ F (k + i) v w' ∧ I w' ∧ R (k + i) w w') Q
  | [], _, _, i, o, h => by simp at h
  | x :: l, k, hs, 0, o, h => by
    simp only [List.getElem?_cons_zero, Option.some.injEq] at h
    subst h
    exact hs.1
  | x :: l, k, hs, i + 1, o, h => by
    have := stepsOk.at l (k + 1) hs.2 i o (by simpa using h)
    rw [show k + (i + 1) = k + 1 + i by omega]
    exact this

theorem wp_region_facts' {P : Program} {id : Nat} {Q : Exit → Act → World → Prop} {a0 : Act} {W : World} {l : List Oper} (n : Nat) (dst : Nat → Tmp) (F : Nat → Value → World → Prop) (I : World → Prop) (R : Nat → World → World → Prop) (hm : P.follows .mixedOrders = true) (hB : monoB l.toArray n dst a0.tmps.size = true)
    (hI : I { W with drawn := W.drawn + 1 })
    (hF : ∀ i j v w w', i ≠ j → F i v w → I w → R j w w' → F i v w')
    (hstep : stepsOk P Q a0 n dst F I R 0 (l.take n))
    (hend : ∀ (vs : Nat → Value) (w : World), I w → (∀ i, i < n → F i (vs i) w) → wpList P l.toArray Q (l.drop n) (puts a0 dst vs (fun _ => true) (List.range n)) w) :
    (Code.region id l.toArray true).wp P Q a0 W :=
  wp_region_facts n dst F I R hm hB hI hF (fun i o hi ho => by
    have := hstep.at _ _ i o (by rw [List.getElem?_take_of_lt hi]; exact ho)
    rwa [Nat.zero_add] at this) hend

/-- The same where memory only grows. -/
theorem wp_region_mono' {P : Program} {id : Nat} {Q : Exit → Act → World → Prop} {a0 : Act} {W : World} {l : List Oper} (n : Nat) (dst : Nat → Tmp) (F : Nat → Value → World → Prop) (hm : P.follows .mixedOrders = true) (hB : monoB l.toArray n dst a0.tmps.size = true)
    (hF : ∀ i v w w', F i v w → Below w.heap.size w w' → F i v w')
    (hstep : stepsOk P Q a0 n dst F (fun w => Below W.heap.size W w) (fun _ w w' => Below w.heap.size w w') 0 (l.take n))
    (hend : ∀ (vs : Nat → Value) (w : World), Below W.heap.size W w → (∀ i, i < n → F i (vs i) w) → wpList P l.toArray Q (l.drop n) (puts a0 dst vs (fun _ => true) (List.range n)) w) :
    (Code.region id l.toArray true).wp P Q a0 W :=
  wp_region_facts' n dst F (fun w => Below W.heap.size W w) (fun _ w w' => Below w.heap.size w w') hm hB ⟨rfl, rfl, rfl, Nat.le_refl _, fun _ _ => rfl⟩ (fun i _ v w w' _ hf _ hr => hF i v w w' hf hr) hstep hend

/-- What a step of such a region yields. -/
theorem grown_step {W w w' : World} {a : Act} {t : Tmp} {v : Value} {F : Value → World → Prop} (hW : Below W.heap.size W w) (hf : F v w') (hb : Below w.heap.size w w') : ∃ v', a.put (some t) v = a.put (some t) v' ∧ F v' w' ∧ Below W.heap.size W w' ∧ Below w.heap.size w w' :=
  ⟨v, rfl, hf, hW.trans (hb.mono hW.size), hb⟩

section
variable {P : Program} {o : Oper} {a : Act} {w : World}
theorem ex_load (T : TypeId) (p : Addr) (x : Operand) (v : Value) (ho : o.op = .load T x) (hx : a.eval x = .pointer (some p)) (hr : (Instr.loadAt T (.pointer (some p))).run P w = .ok v w) : (execOp a.eval o).run P w = .ok (.value v) w := by
  unfold execOp
  simp only [ho, hx, Sem.run_bind, hr, Result.andThen_ok, Sem.run_pure]
theorem ex_move (x : Operand) (v : Value) (ho : o.op = .move x) (hx : a.eval x = v) : (execOp a.eval o).run P w = .ok (.value v) w := by
  unfold execOp
  simp only [ho, hx, Sem.run_pure]
theorem ex_field (T : TypeId) (p : Addr) (x : Operand) (k : Nat) (v : Value) (ho : o.op = .fieldAddr T x k) (hx : a.eval x = .pointer (some p)) (hr : (Instr.fieldAt T (.pointer (some p)) k).run P w = .ok v w) : (execOp a.eval o).run P w = .ok (.value v) w := by
  unfold execOp
  simp only [ho, hx, Sem.run_bind, hr, Result.andThen_ok, Sem.run_pure]
theorem ex_cut (T : TypeId) (x y : Operand) (s i v : Value) (ho : o.op = .slice T x (some y) none none) (hx : a.eval x = s) (hy : a.eval y = i) (hr : (Instr.sliceAt T s (some i) none none).run P w = .ok v w) : (execOp a.eval o).run P w = .ok (.value v) w := by
  unfold execOp
  simp [ho, hx, hy, hr]
theorem ex_high (T : TypeId) (x y : Operand) (s i v : Value) (ho : o.op = .slice T x none (some y) none) (hx : a.eval x = s) (hy : a.eval y = i) (hr : (Instr.sliceAt T s none (some i) none).run P w = .ok v w) : (execOp a.eval o).run P w = .ok (.value v) w := by
  unfold execOp
  simp [ho, hx, hy, hr]
theorem ex_index (T : TypeId) (x y : Operand) (s i v : Value) (ho : o.op = .indexAddr T x y) (hx : a.eval x = s) (hy : a.eval y = i) (hr : (Instr.indexAt T s i).run P w = .ok v w) : (execOp a.eval o).run P w = .ok (.value v) w := by
  unfold execOp
  simp only [ho, hx, hy, Sem.run_bind, hr, Result.andThen_ok, Sem.run_pure]
theorem ex_build (T : TypeId) (parts : Array (Nat × Operand)) (ps : Array (Nat × Value)) (v : Value) (ho : o.op = .build T parts) (hp : (parts.map fun (i, x) => (i, a.eval x)) = ps) (hr : (Instr.build T ps).run P w = .ok v w) : (execOp a.eval o).run P w = .ok (.value v) w := by
  unfold execOp
  simp only [ho, hp, Sem.run_bind, hr, Result.andThen_ok, Sem.run_pure]
end

theorem wp_val {P : Program} {o : Oper} {a : Act} {w w' : World} {K : Act → World → Prop} {Q : Exit → Act → World → Prop} {v : Value} (hr : (execOp a.eval o).run P w = .ok (.value v) w') (h : K (a.put o.dst v) w') : o.wp P a w K Q := by
  unfold Oper.wp
  rw [hr]
  exact h

/-- Values that are known ahead. -/
def Vs (l : List Value) (i : Nat) (v : Value) (_ : World) : Prop := l[i]? = some v

theorem Vs.keeps (l : List Value) : ∀ (i : Nat) (v : Value) (w w' : World), Vs l i v w → Below w.heap.size w w' → Vs l i v w' := fun _ _ _ _ h _ => h

theorem Vs.dep {l : List Value} {a : Act} {t : Operand} {x y : Value} {i : Nat} {w : World} (h : a.eval t = x ∧ Vs l i x w) (hy : l[i]? = some y) : a.eval t = y := by
  have h2 : l[i]? = some x := h.2
  rw [hy] at h2
  rw [h.1]
  exact (Option.some.inj h2).symm

theorem low {k s j : Nat} (h : s < k) : k + j ≠ s := by omega

/-- A step that reads alone. -/
theorem wp_still {P : Program} {o : Oper} {a : Act} {W w : World} {Q : Exit → Act → World → Prop} {l : List Value} {i : Nat} {t : Tmp} {v : Value} (hr : (execOp a.eval o).run P w = .ok (.value v) w) (ht : o.dst = some t) (hv : l[i]? = some v) (hW : Below W.heap.size W w) :
    o.wp P a w (fun a' w' => ∃ v', a' = a.put (some t) v' ∧ Vs l i v' w' ∧ Below W.heap.size W w' ∧ Below w.heap.size w w') Q :=
  wp_val hr (by rw [ht]; exact ⟨v, rfl, hv, hW, Below.refl _ _⟩)
end Go.Proofs.YthpokoiclfbddaaDoor.N

namespace Go.Proofs.YthpokoiclfbddaaDoor.N
open Go.ChangeShapes Go.WideShapes Go.ChangeAt Go.RowKit
set_option maxHeartbeats 2000000
set_option maxRecDepth 100000

def putsO (a0 : Act) (dst : Nat → Option Tmp) (vs : Nat → Value) (p : Nat → Bool) (L : List Nat) : Act := L.foldr (fun i a => if p i then a.put (dst i) (vs i) else a) a0

theorem putsO_congr {a0 : Act} {dst : Nat → Option Tmp} {vs vs' : Nat → Value} {p p' : Nat → Bool} {L : List Nat} (h : ∀ i ∈ L, p' i = p i ∧ vs' i = vs i) : putsO a0 dst vs' p' L = putsO a0 dst vs p L := by
  induction L with
  | nil => rfl
  | cons x L ih =>
    have h1 := h x (List.mem_cons_self ..)
    have h2 := ih (fun i hi => h i (List.mem_cons_of_mem _ hi))
    simp only [putsO, List.foldr_cons] at h2 ⊢
    rw [h2, h1.1, h1.2]

theorem putO_comm (a : Act) {s t : Option Tmp} (h : ∀ x y, s = some x → t = some y → x ≠ y) (x y : Value) : (a.put s x).put t y = (a.put t y).put s x := by
  cases s with
  | none => rfl
  | some s =>
    cases t with
    | none => rfl
    | some t => exact put_comm a (h s t rfl rfl) x y

theorem putsO_set {a0 : Act} {dst : Nat → Option Tmp} {vs vs' : Nat → Value} {p p' : Nat → Bool} {i : Nat} {v : Value} : ∀ {L : List Nat}, L.Nodup → i ∈ L → p i = false → p' i = true → vs' i = v → (∀ j ∈ L, j ≠ i → p' j = p j ∧ vs' j = vs j ∧ ∀ x y, dst j = some x → dst i = some y → x ≠ y) →
    (putsO a0 dst vs p L).put (dst i) v = putsO a0 dst vs' p' L
  | [], _, hi, _, _, _, _ => by cases hi
  | x :: L, hn, hi, h1, h2, h3, h => by
    obtain ⟨hx0, hn'⟩ := List.nodup_cons.1 hn
    by_cases hx : x = i
    · subst hx
      have hc : putsO a0 dst vs' p' L = putsO a0 dst vs p L := putsO_congr (fun j hj => by have := h j (List.mem_cons_of_mem _ hj) (fun e => hx0 (e ▸ hj)); exact ⟨this.1, this.2.1⟩)
      simp only [putsO, List.foldr_cons] at hc ⊢
      rw [h1, h2, hc, h3]
      rfl
    · have ih := putsO_set (a0 := a0) (dst := dst) (v := v) hn' (by rcases List.mem_cons.1 hi with e | e; exact absurd e.symm hx; exact e) h1 h2 h3 (fun j hj => h j (List.mem_cons_of_mem _ hj))
      have hh := h x (List.mem_cons_self ..) hx
      simp only [putsO, List.foldr_cons] at ih ⊢
      rw [hh.1, hh.2.1, ← ih]
      cases p x with
      | true => simp only [if_true]; exact putO_comm _ hh.2.2 _ _
      | false => rfl

theorem putO_size (a : Act) (s : Option Tmp) (v : Value) : (a.put s v).tmps.size = a.tmps.size := by
  cases s with
  | none => rfl
  | some s => simp only [Act.put, Array.size_setIfInBounds]

theorem putsO_size {a0 : Act} {dst : Nat → Option Tmp} {vs : Nat → Value} {p : Nat → Bool} {L : List Nat} : (putsO a0 dst vs p L).tmps.size = a0.tmps.size := by
  induction L with
  | nil => rfl
  | cons x L ih =>
    simp only [putsO, List.foldr_cons] at ih ⊢
    split
    · rw [putO_size]; exact ih
    · exact ih

theorem evalO_ne (a : Act) {s : Option Tmp} {t : Tmp} (h : s ≠ some t) (v : Value) : (a.put s v).eval (.tmp t) = a.eval (.tmp t) := by
  cases s with
  | none => rfl
  | some s => exact eval_put_ne a (fun e => h (by rw [e])) v

theorem putsO_old {a0 : Act} {dst : Nat → Option Tmp} {vs : Nat → Value} {p : Nat → Bool} {s : Tmp} {L : List Nat} (h : ∀ j ∈ L, dst j ≠ some s) : (putsO a0 dst vs p L).eval (.tmp s) = a0.eval (.tmp s) := by
  induction L with
  | nil => rfl
  | cons x L ih =>
    have ih := ih (fun j hj => h j (List.mem_cons_of_mem _ hj))
    simp only [putsO, List.foldr_cons] at ih ⊢
    split
    · rw [evalO_ne _ (h x (List.mem_cons_self ..))]; exact ih
    · exact ih

theorem putsO_at {a0 : Act} {dst : Nat → Option Tmp} {vs : Nat → Value} {p : Nat → Bool} {i : Nat} {t : Tmp} (ht : dst i = some t) (hsz : t < a0.tmps.size) (hp : p i = true) : ∀ {L : List Nat}, i ∈ L → (∀ j ∈ L, j ≠ i → ∀ x y, dst j = some x → dst i = some y → x ≠ y) → (putsO a0 dst vs p L).eval (.tmp t) = vs i
  | [], hi, _ => by cases hi
  | x :: L, hi, h => by
    by_cases hx : x = i
    · subst hx
      have : t < (putsO a0 dst vs p L).tmps.size := by rw [putsO_size]; exact hsz
      simp only [putsO, List.foldr_cons, hp, if_true] at this ⊢
      rw [ht]
      exact eval_put_eq _ this _
    · have ih := putsO_at (vs := vs) ht hsz hp (L := L) (by rcases List.mem_cons.1 hi with e | e; exact absurd e.symm hx; exact e) (fun j hj => h j (List.mem_cons_of_mem _ hj))
      simp only [putsO, List.foldr_cons] at ih ⊢
      split
      · rw [evalO_ne _ (fun e => h x (List.mem_cons_self ..) hx t t e ht rfl)]; exact ih
      · exact ih

def allB (ops : Array Oper) (n : Nat) (dst : Nat → Option Tmp) (size : Nat) : Bool :=
  decide (n = ops.size) && Region.seqB .any ops 0 n (canon ops.size n) &&
  (List.range n).all (fun i => (dst i).all (fun t => decide (t < size)) && ((ops[i]?).map fun o => o.guard.isNone && decide (o.dst = dst i) && o.after.all fun e => !(Region.binds .any e) || decide (e.on < i)).getD false && (List.range n).all fun j => decide (j = i) || decide (dst j ≠ dst i) || (dst j).isNone)

def upd (vs : Nat → Value) (i : Nat) (v : Value) : Nat → Value := fun j => if j = i then v else vs j
theorem upd_eq (vs : Nat → Value) (i : Nat) (v : Value) : upd vs i v i = v := by unfold upd; rw [if_pos rfl]
theorem upd_ne {vs : Nat → Value} {i j : Nat} (v : Value) (h : j ≠ i) : upd vs i v j = vs j := by unfold upd; rw [if_neg h]

theorem wp_region_all {P : Program} {id : Nat} {Q : Exit → Act → World → Prop} {a0 : Act} {W : World} {l : List Oper} (n : Nat) (dst : Nat → Option Tmp) (F : Nat → (Nat → Value) → World → Prop) (I : World → Prop) (R : Nat → World → World → Prop) (hm : P.follows .mixedOrders = true) (hB : allB l.toArray n dst a0.tmps.size = true)
    (hI : I { W with drawn := W.drawn + 1 })
    (hF : ∀ i j o vs v w w', i ≠ j → l[i]? = some o → (∀ e ∈ o.after, Region.binds .any e = true → e.on ≠ j) → F i vs w → I w → R j w w' → F i (upd vs j v) w')
    (hstep : ∀ i o, i < n → l[i]? = some o → ∀ (a : Act) (w : World) (vs : Nat → Value), I w → (∀ s, (∀ j, j < n → dst j ≠ some s) → a.eval (.tmp s) = a0.eval (.tmp s)) →
      (∀ e ∈ o.after, Region.binds .any e = true → F e.on vs w ∧ ∀ t, dst e.on = some t → a.eval (.tmp t) = vs e.on) →
      o.wp P a w (fun a' w' => ∃ v, a' = a.put (dst i) v ∧ F i (upd vs i v) w' ∧ I w' ∧ R i w w') Q)
    (hend : ∀ (vs : Nat → Value) (w : World), I w → (∀ i, i < n → F i vs w) → wpList P l.toArray Q [] (putsO a0 dst vs (fun _ => true) (List.range n)) w) :
    (Code.region id l.toArray true).wp P Q a0 W := by
  simp only [allB, Bool.and_eq_true, decide_eq_true_eq, List.all_eq_true, List.mem_range] at hB
  obtain ⟨⟨hn, hseq⟩, hall⟩ := hB
  have hinj : ∀ i, i < n → ∀ j, j < n → j ≠ i → ∀ x y, dst j = some x → dst i = some y → x ≠ y := fun i hi j hj hne x y hx hy e => by
    have := (hall i hi).2 j hj
    simp only [Bool.or_eq_true, decide_eq_true_eq, hx, hy, Option.isNone_some, Bool.false_eq_true, or_false] at this
    rcases this with h | h
    · exact hne h
    · exact h (by rw [e])
  have hlt : ∀ i, i < n → ∀ t, dst i = some t → t < a0.tmps.size := fun i hi t ht => by
    have := (hall i hi).1.1
    rw [ht] at this
    simpa using this
  have hop : ∀ i o, i < n → l.toArray[i]? = some o → (o.guard = none ∧ o.dst = dst i) ∧ ∀ e ∈ o.after, Region.binds .any e = true → e.on < i := fun i o hi ho => by
    have := (hall i hi).1.2
    rw [ho] at this
    simp only [Option.map_some, Option.getD_some, Bool.and_eq_true, Option.isNone_iff_eq_none, decide_eq_true_eq, Array.all_eq_true_iff_forall_mem, Bool.or_eq_true] at this
    refine ⟨this.1, fun e he hb => ?_⟩
    rcases this.2 e he with h | h
    · rw [hb] at h; cases h
    · exact h
  refine wp_region_any hm ?_
  have main : ∀ (f : Nat) (listed : Array Bool) (vs : Nat → Value) (w : World), listed.size = l.toArray.size → (List.range n).countP (fun j => !listed.getD j false) = f →
      (∀ j oj, l.toArray[j]? = some oj → listed.getD j false = true → ∀ e ∈ oj.after, Region.binds .any e = true → listed.getD e.on false = true) → I w → (∀ i, i < n → listed.getD i false = true → F i vs w) →
      wpAny P .any l.toArray Q f listed (putsO a0 dst vs (fun i => listed.getD i false) (List.range n)) w := by
    intro f
    induction f with
    | zero =>
      intro listed vs w hsz hcnt hcl hb hf
      have hall2 : ∀ i, i < n → listed.getD i false = true := fun i hi => by
        have := List.countP_eq_zero.1 hcnt i (List.mem_range.2 hi)
        simpa using this
      have hcan : listed = canon l.toArray.size n := by
        apply Array.ext
        · rw [hsz]; simp [canon]
        · intro i h1 h2
          simp only [canon, List.getElem_toArray, List.getElem_map, List.getElem_range]
          have hi : i < n := by rw [hn, ← hsz]; exact h1
          have := hall2 i hi
          simpa [h1, hi] using this
      have he : putsO a0 dst vs (fun i => listed.getD i false) (List.range n) = putsO a0 dst vs (fun _ => true) (List.range n) := putsO_congr (fun i hi => ⟨hall2 i (List.mem_range.1 hi), rfl⟩)
      rw [he, hcan]
      exact wpAny_of_seq (P := P) (ops := l.toArray) (md := .any) (Q' := Q) [] n (canon l.toArray.size n) _ w (fun j => by simp [hn]) hseq (hend vs w hb (fun i hi => hf i hi (hall2 i hi)))
    | succ f ih =>
      intro listed vs w hsz hcnt hcl hb hf
      obtain ⟨i0, hi0, hu0⟩ : ∃ i, i < n ∧ listed.getD i false = false := by
        have hpos : 0 < (List.range n).countP (fun j => !listed.getD j false) := by omega
        obtain ⟨i, hi, hp⟩ := List.countP_pos_iff.1 hpos
        exact ⟨i, List.mem_range.1 hi, by simpa using hp⟩
      refine ⟨fun h0 => ?_, fun i hi => ?_⟩
      · exfalso
        have hex : ∃ k, k < n ∧ listed.getD k false = false ∧ ∀ j, j < k → listed.getD j false = true := by
          have : ∀ m, (∃ j, j < m ∧ listed.getD j false = false) → ∃ k, k < m ∧ listed.getD k false = false ∧ ∀ j, j < k → listed.getD j false = true := by
            intro m
            induction m with
            | zero => rintro ⟨j, hj, _⟩; omega
            | succ m ihm =>
              rintro ⟨j, hj, hjf⟩
              by_cases hex : ∃ j, j < m ∧ listed.getD j false = false
              · obtain ⟨k, hk, h1, h2⟩ := ihm hex
                exact ⟨k, by omega, h1, h2⟩
              · refine ⟨m, by omega, ?_, fun j' hj' => ?_⟩
                · have : j = m := by
                    rcases Nat.lt_or_ge j m with h | h
                    · exact absurd ⟨j, h, hjf⟩ hex
                    · omega
                  rw [← this]; exact hjf
                · cases hq : listed.getD j' false with
                  | true => rfl
                  | false => exact absurd ⟨j', hj', hq⟩ hex
          exact this n ⟨i0, hi0, hu0⟩
        obtain ⟨k, hk, hku, hkl⟩ := hex
        have hks : k < l.toArray.size := by omega
        have hr : k ∈ Region.ready .any l.toArray listed := mem_ready.2 ⟨getD_in (by rw [hsz]; exact hks) hku, _, Array.getElem?_eq_getElem hks, fun e he hbi => hkl e.on ((hop k _ hk (Array.getElem?_eq_getElem hks)).2 e he hbi)⟩
        rw [h0] at hr
        cases hr
      · obtain ⟨hun, o, ho, hdep⟩ := mem_ready.1 hi
        have hin : i < n := by rw [hn]; exact (Array.getElem?_eq_some_iff.1 ho).1
        obtain ⟨⟨hg, hd⟩, haf⟩ := hop i o hin ho
        have hiu := getD_both hun
        have his : i < listed.size := by rw [hsz, ← hn]; exact hin
        unfold wpOp
        simp only [ho, Region.wanted, hg, if_true]
        refine .inl ?_
        have H := hstep i o hin (by simpa using ho) (putsO a0 dst vs (fun i => listed.getD i false) (List.range n)) w vs hb (fun s hs' => putsO_old (fun j hj => hs' j (List.mem_range.1 hj))) (fun e he hbi => by
          have hen : e.on < n := Nat.lt_trans (haf e he hbi) hin
          exact ⟨hf e.on hen (hdep e he hbi), fun t ht => putsO_at ht (hlt e.on hen t ht) (hdep e he hbi) (List.mem_range.2 hen) (fun j hj hne => hinj e.on hen j (List.mem_range.1 hj) hne)⟩)
        refine Oper.wp_mono (fun a' w' ⟨v, ha', hfv, hiw, hbw⟩ => ?_) H
        rw [ha', putsO_set (vs' := upd vs i v) (p' := fun j => (listed.setIfInBounds i true).getD j false) (List.nodup_range) (List.mem_range.2 hin) hiu (by simp [his]) (upd_eq _ _ _) (fun j hj hne => ⟨getD_set_ne false (Ne.symm hne), upd_ne _ hne, hinj i hin j (List.mem_range.1 hj) hne⟩)]
        refine ih _ _ w' (by simpa using hsz) ?_ ?_ hiw (fun j hj hlj => ?_)
        · have := countP_point (L := List.range n) List.nodup_range (List.mem_range.2 hin) (p := fun j => !listed.getD j false) (q := fun j => !(listed.setIfInBounds i true).getD j false) (by simp only [hiu]; rfl) (by simp [his]) (fun j _ hne => by simp only [getD_set_ne false (Ne.symm hne)])
          omega
        · intro j oj hoj hlj e he hbi
          by_cases hei : e.on = i
          · rw [hei]; simp [his]
          · rw [getD_set_ne false (Ne.symm hei)]
            by_cases hji : j = i
            · subst hji
              rw [ho] at hoj
              cases hoj
              exact hdep e he hbi
            · rw [getD_set_ne false (Ne.symm hji)] at hlj
              exact hcl j oj hoj hlj e he hbi
        · by_cases hji : j = i
          · subst hji; exact hfv
          · rw [getD_set_ne false (Ne.symm hji)] at hlj
            have hjs : j < l.toArray.size := by omega
            refine hF j i (l.toArray[j]) vs v w w' hji (by simp) (fun e he hbi heq => ?_) (hf j hj hlj) hb hbw
            have := hcl j _ (Array.getElem?_eq_getElem hjs) hlj e he hbi
            rw [heq, hiu] at this
            cases this
  have hcnt : (List.range n).countP (fun j => !(Array.replicate l.toArray.size false).getD j false) = n := by
    rw [List.countP_eq_length.2 (fun j _ => by rw [getD_replicate_false]; rfl), List.length_range]
  have H := main n _ (fun _ => undef) { W with drawn := W.drawn + 1 } (by simp) hcnt (fun j oj _ h => by rw [getD_replicate_false] at h; cases h) hI (fun i _ h => by rw [getD_replicate_false] at h; cases h)
  have he : putsO a0 dst (fun _ => undef) (fun i => (Array.replicate l.toArray.size false).getD i false) (List.range n) = a0 := by
    have : ∀ L : List Nat, putsO a0 dst (fun _ => undef) (fun i => (Array.replicate l.toArray.size false).getD i false) L = a0 := by
      intro L
      induction L with
      | nil => rfl
      | cons x L ih =>
        simp only [putsO, List.foldr_cons] at ih ⊢
        rw [getD_replicate_false, ih]
        rfl
    exact this _
  rw [he, hn] at H
  exact H

/-- The steps, one a goal. -/
def stepsAll (P : Program) (Q : Exit → Act → World → Prop) (a0 : Act) (n : Nat) (dst : Nat → Option Tmp) (F : Nat → (Nat → Value) → World → Prop) (I : World → Prop) (R : Nat → World → World → Prop) : Nat → List Oper → Prop
  | _, [] => True
  | i, o :: rest => (∀ (a : Act) (w : World) (vs : Nat → Value), I w → (∀ s, (∀ j, j < n → dst j ≠ some s) → a.eval (.tmp s) = a0.eval (.tmp s)) →
      (∀ e ∈ o.after, Region.binds .any e = true → F e.on vs w ∧ ∀ t, dst e.on = some t → a.eval (.tmp t) = vs e.on) →
      o.wp P a w (fun a' w' => ∃ v, a' = a.put (dst i) v ∧ F i (upd vs i v) w' ∧ I w' ∧ R i w w') Q) ∧ stepsAll P Q a0 n dst F I R (i + 1) rest

theorem stepsAll.at {P : Program} {Q : Exit → Act → World → Prop} {a0 : Act} {n : Nat} {dst : Nat → Option Tmp} {F : Nat → (Nat → Value) → World → Prop} {I : World → Prop} {R : Nat → World → World → Prop} : ∀ (l : List Oper) (k : Nat), stepsAll P Q a0 n dst F I R k l → ∀ (i : Nat) (o : Oper), l[i]? = some o → ∀ (a : Act) (w : World) (vs : Nat → Value), I w → (∀ s, (∀ j, j < n → dst j ≠ some s) → a.eval (.tmp s) = a0.eval (.tmp s)) →
      (∀ e ∈ o.after, Region.binds .any e = true → F e.on vs w ∧ ∀ t, dst e.on = some t → a.eval (.tmp t) = vs e.on) →
      o.wp P a w (fun a' w' => ∃ v, a' = a.put (dst (k + i)) v ∧ F (k + i) (upd vs (k + i) v) w' ∧ I w' ∧ R (k + i) w w') Q
  | [], _, _, i, o, h => by simp at h
  | x :: l, k, h, 0, o, ho => by
    simp at ho
    subst ho
    exact h.1
  | x :: l, k, h, i + 1, o, ho => by
    have := h.2.at l (k + 1) i o (by simpa using ho)
    rwa [Nat.add_assoc, Nat.add_comm 1 i] at this

theorem wp_region_all' {P : Program} {id : Nat} {Q : Exit → Act → World → Prop} {a0 : Act} {W : World} {l : List Oper} (n : Nat) (dst : Nat → Option Tmp) (F : Nat → (Nat → Value) → World → Prop) (I : World → Prop) (R : Nat → World → World → Prop) (hm : P.follows .mixedOrders = true) (hB : allB l.toArray n dst a0.tmps.size = true)
    (hI : I { W with drawn := W.drawn + 1 })
    (hF : ∀ i j o vs v w w', i ≠ j → l[i]? = some o → (∀ e ∈ o.after, Region.binds .any e = true → e.on ≠ j) → F i vs w → I w → R j w w' → F i (upd vs j v) w')
    (hstep : stepsAll P Q a0 n dst F I R 0 l)
    (hend : ∀ (vs : Nat → Value) (w : World), I w → (∀ i, i < n → F i vs w) → wpList P l.toArray Q [] (putsO a0 dst vs (fun _ => true) (List.range n)) w) :
    (Code.region id l.toArray true).wp P Q a0 W :=
  wp_region_all n dst F I R hm hB hI hF (fun i o _ ho => by
    have := hstep.at _ _ i o ho
    rwa [Nat.zero_add] at this) hend
end Go.Proofs.YthpokoiclfbddaaDoor.N
