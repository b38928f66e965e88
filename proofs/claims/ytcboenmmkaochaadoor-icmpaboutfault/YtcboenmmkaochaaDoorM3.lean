import Derived.Test.YtcboenmmkaochaaDoorM2
import Derived.StillTail
import Derived.Shelf.Abstract
import Derived.Deep.Slices
import Derived.Deep.Strs
import Derived.SizedLaws
import Derived.Test.YtcboenmmkaochaaDoorRows
import Derived.WalkKit
import Derived.ProofKit
import Derived.OpenShut
import Derived.Deep.QuietTactic
import Derived.BigQuiet
import Derived.Laws.BitsAllLaws
import Derived.Test.YtcboenmmkaochaaDoorCards
import Derived.Test.YtcboenmmkaochaaDoorTie
import Derived.Deep.DeepHandedRow
import Derived.Lib.LaidTab
import Derived.Stop.LaidErr
namespace Go.Proofs.YtcboenmmkaochaaDoor.N
open Go.ChangeShapes Go.WideShapes Go.ChangeAt Go.RowKit
set_option maxHeartbeats 2000000
set_option maxRecDepth 100000

theorem countP_point {L : List Nat} (hn : L.Nodup) {i : Nat} (hi : i ∈ L) {p q : Nat → Bool} (hpi : p i = true) (hqi : q i = false) (hne : ∀ j ∈ L, j ≠ i → q j = p j) : L.countP q + 1 = L.countP p := by
  induction L with
  | nil => cases hi
  | cons x L ih =>
    obtain ⟨hx0, hn'⟩ := List.nodup_cons.1 hn
    by_cases hx : x = i
    · subst hx
      have : L.countP q = L.countP p := List.countP_congr (fun j hj => by rw [hne j (List.mem_cons_of_mem _ hj) (fun e => hx0 (e ▸ hj))])
      rw [List.countP_cons, List.countP_cons, this, hpi, hqi]
      simp
    · have := ih hn' (by rcases List.mem_cons.1 hi with h | h; exact absurd h.symm hx; exact h) (fun j hj => hne j (List.mem_cons_of_mem _ hj))
      rw [List.countP_cons, List.countP_cons, hne x (List.mem_cons_self ..) hx]
      omega

def puts (a0 : Act) (dst : Nat → Tmp) (vs : Nat → Value) (p : Nat → Bool) (L : List Nat) : Act := L.foldr (fun i a => if p i then a.put (some (dst i)) (vs i) else a) a0

theorem puts_congr {a0 : Act} {dst : Nat → Tmp} {vs vs' : Nat → Value} {p p' : Nat → Bool} {L : List Nat} (h : ∀ i ∈ L, p' i = p i ∧ vs' i = vs i) : puts a0 dst vs' p' L = puts a0 dst vs p L := by
  induction L with
  | nil => rfl
  | cons x L ih =>
    have h1 := h x (List.mem_cons_self ..)
    have h2 := ih (fun i hi => h i (List.mem_cons_of_mem _ hi))
    simp only [puts, List.foldr_cons] at h2 ⊢
    rw [h2, h1.1, h1.2]

theorem put_comm (a : Act) {s t : Tmp} (h : s ≠ t) (x y : Value) : (a.put (some s) x).put (some t) y = (a.put (some t) y).put (some s) x := by
  simp only [Act.put]
  rw [Array.setIfInBounds_comm _ _ h]

theorem puts_set {a0 : Act} {dst : Nat → Tmp} {vs vs' : Nat → Value} {p p' : Nat → Bool} {i : Nat} {v : Value} : ∀ {L : List Nat}, L.Nodup → i ∈ L → p i = false → p' i = true → vs' i = v → (∀ j ∈ L, j ≠ i → p' j = p j ∧ vs' j = vs j ∧ dst j ≠ dst i) →
    (puts a0 dst vs p L).put (some (dst i)) v = puts a0 dst vs' p' L
  | [], _, hi, _, _, _, _ => by cases hi
  | x :: L, hn, hi, h1, h2, h3, h => by
    obtain ⟨hx0, hn'⟩ := List.nodup_cons.1 hn
    by_cases hx : x = i
    · subst hx
      have hc : puts a0 dst vs' p' L = puts a0 dst vs p L := puts_congr (fun j hj => by have := h j (List.mem_cons_of_mem _ hj) (fun e => hx0 (e ▸ hj)); exact ⟨this.1, this.2.1⟩)
      simp only [puts, List.foldr_cons] at hc ⊢
      rw [h1, h2, hc, h3]
      rfl
    · have ih := puts_set (a0 := a0) (dst := dst) (v := v) hn' (by rcases List.mem_cons.1 hi with e | e; exact absurd e.symm hx; exact e) h1 h2 h3 (fun j hj => h j (List.mem_cons_of_mem _ hj))
      have hh := h x (List.mem_cons_self ..) hx
      simp only [puts, List.foldr_cons] at ih ⊢
      rw [hh.1, hh.2.1, ← ih]
      cases p x with
      | true => simp only [if_true]; exact put_comm _ hh.2.2 _ _
      | false => rfl

theorem puts_size {a0 : Act} {dst : Nat → Tmp} {vs : Nat → Value} {p : Nat → Bool} {L : List Nat} : (puts a0 dst vs p L).tmps.size = a0.tmps.size := by
  induction L with
  | nil => rfl
  | cons x L ih =>
    simp only [puts, List.foldr_cons] at ih ⊢
    split
    · simp only [Act.put, Array.size_setIfInBounds]; exact ih
    · exact ih

theorem eval_put_ne (a : Act) {s t : Tmp} (h : s ≠ t) (v : Value) : (a.put (some t) v).eval (.tmp s) = a.eval (.tmp s) := by
  simp only [Act.put, Act.eval, Array.getD_eq_getD_getElem?]
  rw [Array.getElem?_setIfInBounds_ne (Ne.symm h)]

theorem eval_put_eq (a : Act) {t : Tmp} (h : t < a.tmps.size) (v : Value) : (a.put (some t) v).eval (.tmp t) = v := by
  simp [Act.put, Act.eval, h]

theorem puts_old {a0 : Act} {dst : Nat → Tmp} {vs : Nat → Value} {p : Nat → Bool} {s : Tmp} {L : List Nat} (h : ∀ j ∈ L, dst j ≠ s) : (puts a0 dst vs p L).eval (.tmp s) = a0.eval (.tmp s) := by
  induction L with
  | nil => rfl
  | cons x L ih =>
    have ih := ih (fun j hj => h j (List.mem_cons_of_mem _ hj))
    simp only [puts, List.foldr_cons] at ih ⊢
    split
    · rw [eval_put_ne _ (Ne.symm (h x (List.mem_cons_self ..)))]; exact ih
    · exact ih

theorem puts_at {a0 : Act} {dst : Nat → Tmp} {vs : Nat → Value} {p : Nat → Bool} {i : Nat} (hsz : dst i < a0.tmps.size) (hp : p i = true) : ∀ {L : List Nat}, i ∈ L → (∀ j ∈ L, j ≠ i → dst j ≠ dst i) → (puts a0 dst vs p L).eval (.tmp (dst i)) = vs i
  | [], hi, _ => by cases hi
  | x :: L, hi, h => by
    by_cases hx : x = i
    · subst hx
      have : dst x < (puts a0 dst vs p L).tmps.size := by rw [puts_size]; exact hsz
      simp only [puts, List.foldr_cons, hp, if_true] at this ⊢
      exact eval_put_eq _ this _
    · have ih := puts_at (vs := vs) hsz hp (L := L) (by rcases List.mem_cons.1 hi with e | e; exact absurd e.symm hx; exact e) (fun j hj => h j (List.mem_cons_of_mem _ hj))
      simp only [puts, List.foldr_cons] at ih ⊢
      split
      · rw [eval_put_ne _ (Ne.symm (h x (List.mem_cons_self ..) hx))]; exact ih
      · exact ih

def canon (m n : Nat) : Array Bool := ((List.range m).map fun i => decide (i < n)).toArray

def monoB (ops : Array Oper) (n : Nat) (dst : Nat → Tmp) (size : Nat) : Bool :=
  decide (n < ops.size) && Region.sinkB .any ops n && Region.chainB .any ops n && Region.seqB .any ops (ops.size - n) n (canon ops.size n) &&
  (List.range n).all (fun i => decide (dst i < size) && ((ops[i]?).map fun o => o.guard.isNone && decide (o.dst = some (dst i)) && o.after.all fun e => decide (e.on < i)).getD false && (List.range n).all fun j => decide (j = i) || decide (dst j ≠ dst i))

theorem wp_region_facts {P : Program} {id : Nat} {Q : Exit → Act → World → Prop} {a0 : Act} {W : World} {l : List Oper} (n : Nat) (dst : Nat → Tmp) (F : Nat → Value → World → Prop) (I : World → Prop) (R : Nat → World → World → Prop) (hm : P.follows .mixedOrders = true) (hB : monoB l.toArray n dst a0.tmps.size = true)
    (hI : I { W with drawn := W.drawn + 1 })
    (hF : ∀ i j v w w', i ≠ j → F i v w → I w → R j w w' → F i v w')
    (hstep : ∀ i o, i < n → l[i]? = some o → ∀ (a : Act) (w : World) (vs : Nat → Value), I w → (∀ s, (∀ j, j < n → dst j ≠ s) → a.eval (.tmp s) = a0.eval (.tmp s)) →
      (∀ e ∈ o.after, Region.binds .any e = true → e.on < n → a.eval (.tmp (dst e.on)) = vs e.on ∧ F e.on (vs e.on) w) →
      o.wp P a w (fun a' w' => ∃ v, a' = a.put (some (dst i)) v ∧ F i v w' ∧ I w' ∧ R i w w') Q)
    (hend : ∀ (vs : Nat → Value) (w : World), I w → (∀ i, i < n → F i (vs i) w) → wpList P l.toArray Q (l.drop n) (puts a0 dst vs (fun _ => true) (List.range n)) w) :
    (Code.region id l.toArray true).wp P Q a0 W := by
  simp only [monoB, Bool.and_eq_true, decide_eq_true_eq, List.all_eq_true, List.mem_range] at hB
  obtain ⟨⟨⟨⟨hn, hs⟩, hc⟩, hseq⟩, hall⟩ := hB
  have hinj : ∀ i, i < n → ∀ j, j < n → j ≠ i → dst j ≠ dst i := fun i hi j hj hne => by
    have := (hall i hi).2 j hj
    simp only [Bool.or_eq_true, decide_eq_true_eq] at this
    exact this.resolve_left hne
  have hop : ∀ i o, i < n → l.toArray[i]? = some o → (o.guard = none ∧ o.dst = some (dst i)) ∧ ∀ e ∈ o.after, e.on < i := fun i o hi ho => by
    have := (hall i hi).1.2
    rw [ho] at this
    simp only [Option.map_some, Option.getD_some, Bool.and_eq_true, Option.isNone_iff_eq_none, decide_eq_true_eq, Array.all_eq_true_iff_forall_mem] at this
    exact this
  refine wp_region_any hm ?_
  have main : ∀ (f : Nat) (listed : Array Bool) (vs : Nat → Value) (w : World), (List.range n).countP (fun j => !listed.getD j false) = f → HeadInv .any l.toArray n listed →
      I w → (∀ i, i < n → listed.getD i false = true → F i (vs i) w) →
      wpAny P .any l.toArray Q (f + (l.toArray.size - n)) listed (puts a0 dst vs (fun i => listed.getD i false) (List.range n)) w := by
    intro f
    induction f with
    | zero =>
      intro listed vs w hcnt inv hb hf
      have hall2 : ∀ i, i < n → listed.getD i false = true := fun i hi => by
        have := List.countP_eq_zero.1 hcnt i (List.mem_range.2 hi)
        simpa using this
      have hcan : listed = canon l.toArray.size n := by
        apply Array.ext
        · rw [inv.size]; simp [canon]
        · intro i h1 h2
          simp only [canon, List.getElem_toArray, List.getElem_map, List.getElem_range]
          by_cases hi : i < n
          · have := hall2 i hi
            simpa [h1, hi] using this
          · have := inv.tail i (by omega) (by rw [inv.size] at h1; exact h1)
            simpa [h1, hi] using this
      have he : puts a0 dst vs (fun i => listed.getD i false) (List.range n) = puts a0 dst vs (fun _ => true) (List.range n) := puts_congr (fun i hi => ⟨hall2 i (List.mem_range.1 hi), rfl⟩)
      rw [he, hcan, Nat.zero_add]
      have hdl : (l.drop n).length = l.toArray.size - n := by simp
      have := wpAny_of_seq (P := P) (ops := l.toArray) (md := .any) (Q' := Q) (l.drop n) n (canon l.toArray.size n) _ w (fun j => by simp [List.getElem?_drop]) (by rw [hdl]; exact hseq) (hend vs w hb (fun i hi => hf i hi (hall2 i hi)))
      rwa [hdl] at this
    | succ f ih =>
      intro listed vs w hcnt inv hb hf
      obtain ⟨i0, hi0, hu0⟩ : ∃ i, i < n ∧ listed.getD i false = false := by
        have hpos : 0 < (List.range n).countP (fun j => !listed.getD j false) := by omega
        obtain ⟨i, hi, hp⟩ := List.countP_pos_iff.1 hpos
        exact ⟨i, List.mem_range.1 hi, by simpa using hp⟩
      have hi0s : i0 < listed.size := by rw [inv.size]; omega
      have hwait := tail_waits hs hc hn inv _ i0 rfl hi0 (getD_in hi0s hu0)
      rw [show f + 1 + (l.toArray.size - n) = (f + (l.toArray.size - n)) + 1 by omega]
      refine ⟨fun h0 => ?_, fun i hi => ?_⟩
      · -- something is ready: the least that is not listed
        exfalso
        have hex : ∃ k, k < n ∧ listed.getD k false = false ∧ ∀ j, j < k → listed.getD j false = true := by
          have : ∀ m, (∃ j, j < m ∧ listed.getD j false = false) → ∃ k, k < m ∧ listed.getD k false = false ∧ ∀ j, j < k → listed.getD j false = true := by
            intro m
            induction m with
            | zero => rintro ⟨j, hj, _⟩; omega
            | succ m ihm =>
              rintro ⟨j, hj, hjf⟩
              by_cases hex : ∃ j, j < m ∧ listed.getD j false = false
              · obtain ⟨k, hk, h1, h2⟩ := ihm hex
                exact ⟨k, by omega, h1, h2⟩
              · refine ⟨m, by omega, ?_, fun j' hj' => ?_⟩
                · have : j = m := by
                    rcases Nat.lt_or_ge j m with h | h
                    · exact absurd ⟨j, h, hjf⟩ hex
                    · omega
                  rw [← this]; exact hjf
                · cases hq : listed.getD j' false with
                  | true => rfl
                  | false => exact absurd ⟨j', hj', hq⟩ hex
          exact this n ⟨i0, hi0, hu0⟩
        obtain ⟨k, hk, hku, hkl⟩ := hex
        have hks : k < l.toArray.size := by omega
        have hr : k ∈ Region.ready .any l.toArray listed := mem_ready.2 ⟨getD_in (by rw [inv.size]; exact hks) hku, _, Array.getElem?_eq_getElem hks, fun e he _ => hkl e.on ((hop k _ hk (Array.getElem?_eq_getElem hks)).2 e he)⟩
        rw [h0] at hr
        cases hr
      · have hin : i < n := by
          rcases Nat.lt_or_ge i n with h | h
          · exact h
          · exact absurd hi (hwait i h)
        obtain ⟨hun, o, ho, hdep⟩ := mem_ready.1 hi
        obtain ⟨⟨hg, hd⟩, _⟩ := hop i o hin ho
        have hiu := getD_both hun
        have his : i < listed.size := by rw [inv.size]; omega
        unfold wpOp
        simp only [ho, Region.wanted, hg, if_true]
        refine .inl ?_
        have H := hstep i o hin (by simpa using ho) (puts a0 dst vs (fun i => listed.getD i false) (List.range n)) w vs hb (fun s hs' => puts_old (fun j hj => hs' j (List.mem_range.1 hj))) (fun e he hbi hen => ⟨puts_at (by have := (hall e.on hen).1.1; simpa using this) (hdep e he hbi) (List.mem_range.2 hen) (fun j hj hne => hinj e.on hen j (List.mem_range.1 hj) hne), hf e.on hen (hdep e he hbi)⟩)
        refine Oper.wp_mono (fun a' w' ⟨v, ha', hfv, hiw, hbw⟩ => ?_) H
        rw [ha', puts_set (vs' := fun j => if j = i then v else vs j) (p' := fun j => (listed.setIfInBounds i true).getD j false) (List.nodup_range) (List.mem_range.2 hin) hiu (by simp [his]) (by simp) (fun j hj hne => ⟨getD_set_ne false (Ne.symm hne), by simp [hne], hinj i hin j (List.mem_range.1 hj) hne⟩)]
        refine ih _ _ w' ?_ (inv.set hi hin) hiw (fun j hj hlj => ?_)
        · have := countP_point (L := List.range n) List.nodup_range (List.mem_range.2 hin) (p := fun j => !listed.getD j false) (q := fun j => !(listed.setIfInBounds i true).getD j false) (by simp only [hiu]; rfl) (by simp [his]) (fun j _ hne => by simp only [getD_set_ne false (Ne.symm hne)])
          omega
        · by_cases hji : j = i
          · subst hji; simpa using hfv
          · simp only [hji, if_false]
            rw [getD_set_ne false (Ne.symm hji)] at hlj
            exact hF j i _ w w' hji (hf j hj hlj) hb hbw
  have inv0 : HeadInv .any l.toArray n (Array.replicate l.toArray.size false) :=
    ⟨by simp, fun j oj _ hl => (by rw [getD_replicate_false] at hl; cases hl), fun t _ ht => getD_in (by simpa using ht) (getD_replicate_false _ _)⟩
  have hcnt : (List.range n).countP (fun j => !(Array.replicate l.toArray.size false).getD j false) = n := by
    rw [List.countP_eq_length.2 (fun j _ => by rw [getD_replicate_false]; rfl), List.length_range]
  have H := main n _ (fun _ => undef) { W with drawn := W.drawn + 1 } hcnt inv0 hI (fun i _ h => by rw [getD_replicate_false] at h; cases h)
  have he : puts a0 dst (fun _ => undef) (fun i => (Array.replicate l.toArray.size false).getD i false) (List.range n) = a0 := by
    have : ∀ L : List Nat, puts a0 dst (fun _ => undef) (fun i => (Array.replicate l.toArray.size false).getD i false) L = a0 := by
      intro L
      induction L with
      | nil => rfl
      | cons x L ih =>
        simp only [puts, List.foldr_cons] at ih ⊢
        rw [getD_replicate_false, ih]
        rfl
    exact this _
  rw [he, show n + (l.toArray.size - n) = l.toArray.size by omega] at H
  exact H
theorem wp_call {P : Program} {o : Oper} {a : Act} {w : World} {K : Act → World → Prop} {Q : Exit → Act → World → Prop} (f : FuncId) (xs : Array Operand) (ts : Array TypeId) (ho : o.op = .call { callee := .value (.func f), args := xs, argTypes := ts })
    (hf : ∀ (args : Array Value) (w : World), (callFunc f args).run P w = .ok (.enter f args) w) (vs : Array Value) (hv : xs.map a.eval = vs) (h : Calls P f vs w fun e w' => ∃ v, e = .returned v ∧ K (a.put o.dst v) w') : o.wp P a w K Q := by
  unfold Oper.wp execOp
  simp [ho, resolve, invoke, Act.eval, hv, Deferred.ofValue, hf]
  exact h.mono fun e w' ⟨v, he, hk⟩ => by subst he; exact hk

theorem wp_load {P : Program} {o : Oper} {a : Act} {w : World} {K : Act → World → Prop} {Q : Exit → Act → World → Prop} (T : TypeId) (p : Addr) (x : Operand) (v : Value) (ho : o.op = .load T x) (hx : a.eval x = .pointer (some p))
    (hr : (Instr.loadAt T (.pointer (some p))).run P w = .ok v w) (h : K (a.put o.dst v) w) : o.wp P a w K Q := by
  unfold Oper.wp execOp
  simp only [ho, hx, Sem.run_bind, hr, Result.andThen_ok, Sem.run_pure]
  exact h

theorem wp_nil {P : Program} {o : Oper} {a : Act} {w : World} {K : Act → World → Prop} {Q : Exit → Act → World → Prop} (p : Addr) (x : Operand) (ho : o.op = .nilCheck x) (hx : a.eval x = .pointer (some p))
    (h : K (a.put o.dst (.pointer (some p))) w) : o.wp P a w K Q := by
  unfold Oper.wp execOp
  simp only [ho, hx]
  exact h

/-- The steps of a drawn region, one a goal. -/
def stepsOk (P : Program) (Q : Exit → Act → World → Prop) (a0 : Act) (n : Nat) (dst : Nat → Tmp) (F : Nat → Value → World → Prop) (I : World → Prop) (R : Nat → World → World → Prop) : Nat → List Oper → Prop
  | _, [] => True
  | i, o :: rest => (∀ (a : Act) (w : World) (vs : Nat → Value), I w → (∀ s, (∀ j, j < n → dst j ≠ s) → a.eval (.tmp s) = a0.eval (.tmp s)) →
      (∀ e ∈ o.after, Region.binds .any e = true → e.on < n → a.eval (.tmp (dst e.on)) = vs e.on ∧ F e.on (vs e.on) w) →
      o.wp P a w (fun a' w' => ∃ v, a' = a.put (some (dst i)) v ∧ F i v w' ∧ I w' ∧ R i w w') Q) ∧ stepsOk P Q a0 n dst F I R (i + 1) rest

theorem stepsOk.at {P : Program} {Q : Exit → Act → World → Prop} {a0 : Act} {n : Nat} {dst : Nat → Tmp} {F : Nat → Value → World → Prop} {I : World → Prop} {R : Nat → World → World → Prop} : ∀ (l : List Oper) (k : Nat), stepsOk P Q a0 n dst F I R k l → ∀ (i : Nat) (o : Oper), l[i]? = some o → ∀ (a : Act) (w : World) (vs : Nat → Value), I w → (∀ s, (∀ j, j < n → dst j ≠ s) → a.eval (.tmp s) = a0.eval (.tmp s)) →
      (∀ e ∈ o.after, Region.binds .any e = true → e.on < n → a.eval (.tmp (dst e.on)) = vs e.on ∧ F e.on (vs e.on) w) →
      o.wp P a w (fun a' w' => ∃ v, a' = a.put (some (dst (k + i))) v ∧ F (k + i) v w' ∧ I w' ∧ R (k + i) w w') Q
  | [], _, _, i, o, h => by simp at h
  | x :: l, k, hs, 0, o, h => by
    simp only [List.getElem?_cons_zero, Option.some.injEq] at h
    subst h
    exact hs.1
  | x :: l, k, hs, i + 1, o, h => by
    have := stepsOk.at l (k + 1) hs.2 i o (by simpa using h)
    rw [show k + (i + 1) = k + 1 + i by omega]
    exact this

theorem wp_region_facts' {P : Program} {id : Nat} {Q : Exit → Act → World → Prop} {a0 : Act} {W : World} {l : List Oper} (n : Nat) (dst : Nat → Tmp) (F : Nat → Value → World → Prop) (I : World → Prop) (R : Nat → World → World → Prop) (hm : P.follows .mixedOrders = true) (hB : monoB l.toArray n dst a0.tmps.size = true)
    (hI : I { W with drawn := W.drawn + 1 })
    (hF : ∀ i j v w w', i ≠ j → F i v w → I w → R j w w' → F i v w')
    (hstep : stepsOk P Q a0 n dst F I R 0 (l.take n))
    (hend : ∀ (vs : Nat → Value) (w : World), I w → (∀ i, i < n → F i (vs i) w) → wpList P l.toArray Q (l.drop n) (puts a0 dst vs (fun _ => true) (List.range n)) w) :
    (Code.region id l.toArray true).wp P Q a0 W :=
  wp_region_facts n dst F I R hm hB hI hF (fun i o hi ho => by
    have := hstep.at _ _ i o (by rw [List.getElem?_take_of_lt hi]; exact ho)
    rwa [Nat.zero_add] at this) hend

/-- The same where memory only grows. -/
theorem wp_region_mono' {P : Program} {id : Nat} {Q : Exit → Act → World → Prop} {a0 : Act} {W : World} {l : List Oper} (n : Nat) (dst : Nat → Tmp) (F : Nat → Value → World → Prop) (hm : P.follows .mixedOrders = true) (hB : monoB l.toArray n dst a0.tmps.size = true)
    (hF : ∀ i v w w', F i v w → Below w.heap.size w w' → F i v w')
    (hstep : stepsOk P Q a0 n dst F (fun w => Below W.heap.size W w) (fun _ w w' => Below w.heap.size w w') 0 (l.take n))
    (hend : ∀ (vs : Nat → Value) (w : World), Below W.heap.size W w → (∀ i, i < n → F i (vs i) w) → wpList P l.toArray Q (l.drop n) (puts a0 dst vs (fun _ => true) (List.range n)) w) :
    (Code.region id l.toArray true).wp P Q a0 W :=
  wp_region_facts' n dst F (fun w => Below W.heap.size W w) (fun _ w w' => Below w.heap.size w w') hm hB ⟨rfl, rfl, rfl, Nat.le_refl _, fun _ _ => rfl⟩ (fun i _ v w w' _ hf _ hr => hF i v w w' hf hr) hstep hend

/-- What a step of such a region yields. -/
theorem grown_step {W w w' : World} {a : Act} {t : Tmp} {v : Value} {F : Value → World → Prop} (hW : Below W.heap.size W w) (hf : F v w') (hb : Below w.heap.size w w') : ∃ v', a.put (some t) v = a.put (some t) v' ∧ F v' w' ∧ Below W.heap.size W w' ∧ Below w.heap.size w w' :=
  ⟨v, rfl, hf, hW.trans (hb.mono hW.size), hb⟩

section
variable {P : Program} {o : Oper} {a : Act} {w : World}
theorem ex_load (T : TypeId) (p : Addr) (x : Operand) (v : Value) (ho : o.op = .load T x) (hx : a.eval x = .pointer (some p)) (hr : (Instr.loadAt T (.pointer (some p))).run P w = .ok v w) : (execOp a.eval o).run P w = .ok (.value v) w := by
  unfold execOp
  simp only [ho, hx, Sem.run_bind, hr, Result.andThen_ok, Sem.run_pure]
theorem ex_move (x : Operand) (v : Value) (ho : o.op = .move x) (hx : a.eval x = v) : (execOp a.eval o).run P w = .ok (.value v) w := by
  unfold execOp
  simp only [ho, hx, Sem.run_pure]
theorem ex_field (T : TypeId) (p : Addr) (x : Operand) (k : Nat) (v : Value) (ho : o.op = .fieldAddr T x k) (hx : a.eval x = .pointer (some p)) (hr : (Instr.fieldAt T (.pointer (some p)) k).run P w = .ok v w) : (execOp a.eval o).run P w = .ok (.value v) w := by
  unfold execOp
  simp only [ho, hx, Sem.run_bind, hr, Result.andThen_ok, Sem.run_pure]
theorem ex_cut (T : TypeId) (x y : Operand) (s i v : Value) (ho : o.op = .slice T x (some y) none none) (hx : a.eval x = s) (hy : a.eval y = i) (hr : (Instr.sliceAt T s (some i) none none).run P w = .ok v w) : (execOp a.eval o).run P w = .ok (.value v) w := by
  unfold execOp
  simp [ho, hx, hy, hr]
theorem ex_high (T : TypeId) (x y : Operand) (s i v : Value) (ho : o.op = .slice T x none (some y) none) (hx : a.eval x = s) (hy : a.eval y = i) (hr : (Instr.sliceAt T s none (some i) none).run P w = .ok v w) : (execOp a.eval o).run P w = .ok (.value v) w := by
  unfold execOp
  simp [ho, hx, hy, hr]
theorem ex_index (T : TypeId) (x y : Operand) (s i v : Value) (ho : o.op = .indexAddr T x y) (hx : a.eval x = s) (hy : a.eval y = i) (hr : (Instr.indexAt T s i).run P w = .ok v w) : (execOp a.eval o).run P w = .ok (.value v) w := by
  unfold execOp
  simp only [ho, hx, hy, Sem.run_bind, hr, Result.andThen_ok, Sem.run_pure]
theorem ex_build (T : TypeId) (parts : Array (Nat × Operand)) (ps : Array (Nat × Value)) (v : Value) (ho : o.op = .build T parts) (hp : (parts.map fun (i, x) => (i, a.eval x)) = ps) (hr : (Instr.build T ps).run P w = .ok v w) : (execOp a.eval o).run P w = .ok (.value v) w := by
  unfold execOp
  simp only [ho, hp, Sem.run_bind, hr, Result.andThen_ok, Sem.run_pure]
end

theorem wp_val {P : Program} {o : Oper} {a : Act} {w w' : World} {K : Act → World → Prop} {Q : Exit → Act → World → Prop} {v : Value} (hr : (execOp a.eval o).run P w = .ok (.value v) w') (h : K (a.put o.dst v) w') : o.wp P a w K Q := by
  unfold Oper.wp
  rw [hr]
  exact h

/-- Values that are known ahead. -/
def Vs (l : List Value) (i : Nat) (v : Value) (_ : World) : Prop := l[i]? = some v

theorem Vs.keeps (l : List Value) : ∀ (i : Nat) (v : Value) (w w' : World), Vs l i v w → Below w.heap.size w w' → Vs l i v w' := fun _ _ _ _ h _ => h

theorem Vs.dep {l : List Value} {a : Act} {t : Operand} {x y : Value} {i : Nat} {w : World} (h : a.eval t = x ∧ Vs l i x w) (hy : l[i]? = some y) : a.eval t = y := by
  have h2 : l[i]? = some x := h.2
  rw [hy] at h2
  rw [h.1]
  exact (Option.some.inj h2).symm

theorem low {k s j : Nat} (h : s < k) : k + j ≠ s := by omega

/-- A step that reads alone. -/
theorem wp_still {P : Program} {o : Oper} {a : Act} {W w : World} {Q : Exit → Act → World → Prop} {l : List Value} {i : Nat} {t : Tmp} {v : Value} (hr : (execOp a.eval o).run P w = .ok (.value v) w) (ht : o.dst = some t) (hv : l[i]? = some v) (hW : Below W.heap.size W w) :
    o.wp P a w (fun a' w' => ∃ v', a' = a.put (some t) v' ∧ Vs l i v' w' ∧ Below W.heap.size W w' ∧ Below w.heap.size w w') Q :=
  wp_val hr (by rw [ht]; exact ⟨v, rfl, hv, hW, Below.refl _ _⟩)
end Go.Proofs.YtcboenmmkaochaaDoor.N

namespace Go.Proofs.YtcboenmmkaochaaDoor.N
open Go.ChangeShapes Go.WideShapes Go.ChangeAt Go.RowKit
set_option maxHeartbeats 2000000
set_option maxRecDepth 100000

theorem size_ct : (Tryd.prog.info? 37).map (·.size) = some 4 := by kernel_rfl

theorem load_cell {w : World} {b : Nat} {pa : Array Value} {T : TypeId} {fs : Array Field} (h : w.there b 0 pa.size) (hu : Tryd.prog.underlying T = some (.struct fs)) (hi : (Tryd.prog.info? T).map (·.size) = some pa.size) :
    (loadVar T ⟨b, 0, none⟩).run Tryd.prog (w.setCells b 0 pa.toList) = .ok (.agg pa) (w.setCells b 0 pa.toList) :=
  run_loadVar_mid _ b 0 T pa.toList (.struct fs) (World.rangeAt_setCells_same w b 0 pa.toList (by rw [Array.length_toList]; exact h)) hu rfl (by rw [Array.length_toList]; exact hi)

theorem ct_load {u : World} {n : Nat} {C : Array Value} (hC : C.size = 4) (hb : u.heap[n]? = some (.cells C 37 (0, 0))) : (Instr.loadAt 37 (.pointer (some ⟨n, 0, none⟩))).run Tryd.prog u = .ok (.agg C) u := by
  refine run_loadAt_mid u n 0 37 C.toList (.struct _) (fun j v hv => ?_) Tryd.underlying37 rfl (by rw [Array.length_toList, hC]; exact size_ct)
  rw [Nat.zero_add, cell_of_row _ _ _ _ _ _ hb, ← hv, Array.getElem?_toList]

def zeroC : Array Value := #[.int .u8 0, .int .u8 0, .int .u32 0, .slice none 0 0]

theorem iparse_bad (v : Value) (L : List Nat) (w : World) (hv : SeesB w v L) (he : Im.prE L ≠ 0) :
    Calls Tryd.prog 26 #[v] w fun e w' => e = .returned (.tuple #[.agg zeroC, .int .i64 (Im.prE L)]) ∧ Below w.heap.size w w' := by
  obtain ⟨zz, hzz⟩ : ∃ zz : Array Value, zz = zeroC := ⟨_, rfl⟩
  obtain ⟨w1, hw1⟩ : ∃ w1, w1 = w.alloc (.cells zeroC 37) := ⟨_, rfl⟩
  have hb1 : Below w.heap.size w w1 := by rw [hw1]; exact (Below.refl _ _).alloc (Nat.le_refl _) _
  have hs1 : w1.heap.size = w.heap.size + 1 := by rw [hw1]; simp
  have HTH : Hid (∀ u, Below w1.heap.size w1 u → u.there w.heap.size 0 zz.size) := fun u hu => by
    rw [hzz]
    refine there_blk (C := zeroC) (t := 37) ?_ rfl
    rw [hu.block _ (by omega), hw1]
    exact heap_alloc_new w _
  have HW1 : Hid (w1 = w.alloc (.cells #[.int .u8 0, .int .u8 0, .int .u32 0, .slice none 0 0] 37)) := hw1
  have HB1 := hid hb1
  have HZ : Hid (zz = #[.int .u8 0, .int .u8 0, .int .u32 0, .slice none 0 0]) := hzz
  have HONE : Hid (zz.all (·.oneCell') = true) := by unfold Hid; rw [hzz]; simp [zeroC, Value.oneCell']
  have HINF : Hid ((Tryd.prog.info? 37).map (·.size) = some zz.size) := by unfold Hid; rw [hzz]; exact size_ct
  obtain ⟨ao, n, cap, rfl, HN, hn1, hn2⟩ := hv.shape
  unfold maxLen at hn2
  rw [← hzz]
  have HLV : Hid (∀ u, Below w1.heap.size w1 u → (loadVar 37 ⟨w.heap.size, 0, none⟩).run Tryd.prog (u.setCells w.heap.size 0 zz.toList) = .ok (.agg zz) (u.setCells w.heap.size 0 zz.toList)) := fun u hu => load_cell (HTH.out u hu) Tryd.underlying37 HINF.out
  have HBF : Hid (∀ u, Below w1.heap.size w1 u → Below w.heap.size w (u.setCells w.heap.size 0 zz.toList)) := fun u hu => below_setCells (Nat.le_refl _) _ _ _ (HB1.out.trans (hu.mono HB1.out.size))
  have HPE : Hid (Im.prE L = if n < 8 then 30 else if 65515 < n then 37 else if M.csum L = 0 then 0 else 33) := by unfold Hid; rw [HN.out]; rfl
  by_cases h8 : n < 8
  · have HE : Hid (Im.prE L = 30) := by unfold Hid; rw [HPE.out, if_pos h8]
    have h0 := Below.refl w1.heap.size w1
    have HTZ := hid (HTH.out _ h0)
    have HLV := hid (HLV.out _ h0)
    have HBF := hid (HBF.out _ h0)
    clear hw1 hb1 hs1 hv he hzz HPE h0
    go_enter Tryd.func26, Tryd.ntmps26
    go_upto_region 1 with fail
    rw [← HW1.out]
    go_wp2_with (first
      | (refine wpList_store_mid rfl 37 (.tmp 2) (.tmp 9) rfl w.heap.size 0 zz rfl (by rw [HZ.out]; rfl) HTZ.out HINF.out HONE.out ?_)
      | fail)
    generalize w1.setCells w.heap.size 0 zz.toList = wf at HLV HBF ⊢
    refine bodyPost_ret (v := .tuple #[.agg zz, .int .i64 30]) (by simp [results, Tryd.results26, asAddr, HLV.out]) rfl ?_
    exact ⟨by rw [HE.out], HBF.out⟩
  · by_cases hB : 65515 < n
    · have HE : Hid (Im.prE L = 37) := by unfold Hid; rw [HPE.out, if_neg h8, if_pos hB]
      have h0 := Below.refl w1.heap.size w1
      have HTZ := hid (HTH.out _ h0)
      have HLV := hid (HLV.out _ h0)
      have HBF := hid (HBF.out _ h0)
      clear hw1 hb1 hs1 hv he hzz HPE h0
      go_enter Tryd.func26, Tryd.ntmps26
      go_upto_region 1 with fail
      rw [← HW1.out]
      go_wp2_with (first
        | (refine wpList_store_mid rfl 37 (.tmp 2) (.tmp 14) rfl w.heap.size 0 zz rfl (by rw [HZ.out]; rfl) HTZ.out HINF.out HONE.out ?_)
        | fail)
      generalize w1.setCells w.heap.size 0 zz.toList = wf at HLV HBF ⊢
      refine bodyPost_ret (v := .tuple #[.agg zz, .int .i64 37]) (by simp [results, Tryd.results26, asAddr, HLV.out]) rfl ?_
      exact ⟨by rw [HE.out], HBF.out⟩
    · have hc : M.csum L ≠ 0 := fun h => he (by rw [HPE.out, if_neg h8, if_neg hB, if_pos h])
      have HE : Hid (Im.prE L = 33) := by unfold Hid; rw [HPE.out, if_neg h8, if_neg hB, if_neg hc]
      have hs := seesBB_one (w := w1) rfl _ _ (hv.below hb1) 25
      have HSM0 := sum_code _ _ _ hs (by simp; have := HN.out; omega)
      rw [show [L].flatten = L by simp] at HSM0
      have HSM : Hid (Calls Tryd.prog 40 #[.slice (some ⟨w1.heap.size, 0, none⟩) 1 1] (w1.alloc (.cells #[.slice ao n cap] 25)) fun e w' => e = .returned (.int .u16 ((M.csum L : Nat) : Int)) ∧ Below w1.heap.size w1 w') := by
        refine HSM0.mono ?_
        rintro e w' ⟨rfl, hb⟩
        have hbA : Below w1.heap.size w1 (w1.alloc (.cells #[.slice ao n cap] 25)) := (Below.refl w1.heap.size w1).alloc (Nat.le_refl _) _
        exact ⟨rfl, hbA.trans (hb.mono hbA.size)⟩
      generalize M.csum L = s at *
      have hq : ((s : Int) != 0) = true := by simp; omega
      clear hw1 hb1 hs1 hv he hzz HPE hs HSM0 hc
      go_enter Tryd.func26, Tryd.ntmps26
      go_upto_region 1 with fail
      rw [← HW1.out]
      go_wp2_with fail
      refine HSM.out.mono ?_
      rintro _ w2 ⟨rfl, hb2⟩
      have HTZ := hid (HTH.out _ hb2)
      have HLV := hid (HLV.out _ hb2)
      have HBF := hid (HBF.out _ hb2)
      go_wp2_with (first
        | (refine wpList_store_mid rfl 37 (.tmp 2) (.tmp 20) rfl w.heap.size 0 zz rfl (by rw [HZ.out]; rfl) HTZ.out HINF.out HONE.out ?_)
        | fail)
      generalize w2.setCells w.heap.size 0 zz.toList = wf at HLV HBF ⊢
      refine bodyPost_ret (v := .tuple #[.agg zz, .int .i64 33]) (by simp [results, Tryd.results26, asAddr, HLV.out]) rfl ?_
      exact ⟨by rw [HE.out], HBF.out⟩

theorem sees_setI {w : World} {ao : Option Addr} {n cap b : Nat} {L : List Nat} {vs : List Value} (h : SeesB w (.slice ao n cap) L) (hne : ∀ a, ao = some a → a.block ≠ b) : SeesB (w.setCells b 0 vs) (.slice ao n cap) L := by
  obtain ⟨ao', cap', hv, h1, h2, h3⟩ := h
  simp at hv
  obtain ⟨rfl, hn, rfl⟩ := hv
  refine ⟨ao, cap, by rw [hn], h1, h2, fun j hj => ?_⟩
  obtain ⟨g, off, ha, hg, hc, hb⟩ := h3 j hj
  have hg' := hne _ ha
  have e := World.cell?_setCells_out b vs 0 w ⟨g, off + j, none⟩ (fun hb _ => absurd hb hg')
  exact ⟨g, off, ha, World.block_lt_of_cell? _ ⟨g, off + j, none⟩ (e.trans hc), e.trans hc, hb⟩

theorem idx_at (n cap g off m : Nat) (i : Int) (hi : i = (m : Int)) (hm : m < n) (u : World) : (Instr.indexAt 25 (.slice (some ⟨g, off, none⟩) n cap) (.int .i64 i)).run Tryd.prog u = .ok (.pointer (some ⟨g, off + m, none⟩)) u := by
  subst hi
  have hu : Tryd.prog.underlying 25 = some (.slice 5) := by kernel_rfl
  have hsz : (sizeOf 5).run Tryd.prog u = .ok 1 u := by kernel_rfl
  simp [Instr.indexAt, run_underlying hu, asIntOf, go_sem, hsz, Result.andThen]
  omega

theorem load_u8 {u : World} {p : Addr} {x : Int} (h : u.cell? p = some (.int .u8 x)) : (Instr.loadAt 5 (.pointer (some p))).run Tryd.prog u = .ok (.int .u8 x) u := by
  simp [Instr.loadAt, go_sem, h]

theorem build_ct (a b c : Int) (p : Option Addr) (n cap : Nat) (u : World) : (Instr.build 37 #[(0, .int .u8 a), (1, .int .u8 b), (2, .int .u32 c), (3, .slice p n cap)]).run Tryd.prog u = .ok (.agg #[.int .u8 a, .int .u8 b, .int .u32 c, .slice p n cap]) u := by
  simp [Instr.build, run_underlying Tryd.underlying37, go_sem]

theorem rest_drop (L : List Nat) : Im.rest4 L = (byt (L.drop 4) 0 * 256 + byt (L.drop 4) 1) * 65536 + (byt (L.drop 4) 2 * 256 + byt (L.drop 4) 3) := by
  unfold Im.rest4 Im.at0 byt
  simp only [List.getD_eq_getElem?_getD, List.getElem?_drop]

theorem iparse_good (v : Value) (L : List Nat) (w : World) (hv : SeesB w v L) (he : Im.prE L = 0) :
    Calls Tryd.prog 26 #[v] w fun e w' => ∃ g k, e = .returned (.tuple #[.agg (ctCells (Im.prC L) (.slice (some ⟨g, 0, none⟩) k k)), .int .i64 0]) ∧ SeesB w' (.slice (some ⟨g, 0, none⟩) k k) (Im.prC L).B ∧ w.heap.size ≤ g ∧ Below w.heap.size w w' := by
  have hC : Im.prC L = ⟨byt L 0, byt L 1, Im.rest4 L, L.drop 8⟩ := by unfold Im.prC; rw [if_pos he]; rfl
  rw [hC, rest_drop]
  obtain ⟨w1, hw1⟩ : ∃ w1, w1 = w.alloc (.cells zeroC 37) := ⟨_, rfl⟩
  have hb1 : Below w.heap.size w w1 := by rw [hw1]; exact (Below.refl _ _).alloc (Nat.le_refl _) _
  have hs1 : w1.heap.size = w.heap.size + 1 := by rw [hw1]; simp
  obtain ⟨ao, n, cap, rfl, HN, hn1, hn2⟩ := hv.shape
  unfold maxLen at hn2
  have h8 : 8 ≤ n ∧ n ≤ 65515 ∧ M.csum L = 0 := by
    rw [HN.out]
    unfold Im.prE at he
    split at he
    · cases he
    · split at he
      · cases he
      · split at he
        · omega
        · cases he
  obtain ⟨h8, hB, hc⟩ := h8
  have hs := seesBB_one (w := w1) rfl _ _ (hv.below hb1) 25
  have HSM0 := sum_code _ _ _ hs (by simp; have := HN.out; omega)
  rw [show [L].flatten = L by simp, hc] at HSM0
  have HSM : Hid (Calls Tryd.prog 40 #[.slice (some ⟨w1.heap.size, 0, none⟩) 1 1] (w1.alloc (.cells #[.slice ao n cap] 25)) fun e w' => e = .returned (.int .u16 0) ∧ Below w1.heap.size w1 w') := by
    refine HSM0.mono ?_
    rintro e w' ⟨rfl, hb⟩
    have hbA : Below w1.heap.size w1 (w1.alloc (.cells #[.slice ao n cap] 25)) := (Below.refl w1.heap.size w1).alloc (Nat.le_refl _) _
    exact ⟨rfl, hbA.trans (hb.mono hbA.size)⟩
  obtain ⟨k, hk⟩ : ∃ k, k = n - 8 := ⟨_, rfl⟩
  have hmk : ∀ u : World, (Instr.makeSlice 25 (.int .i64 ((n : Int) - 8)) (.int .i64 ((n : Int) - 8))).run Tryd.prog u = .ok (.slice (some ⟨u.heap.size, 0, none⟩) k k) (u.alloc (.cells (madeCells #[.int .u8 0] k) 5)) := by
    rw [show (n : Int) - 8 = (k : Int) by omega]
    exact make_bytes k (by omega)
  obtain ⟨a8, HS8, hl8⟩ := hv.low 8 8 rfl (by omega)
  obtain ⟨a4, HS4, hl4⟩ := hv.low 4 4 rfl (by omega)
  rw [show n - 8 = k by omega] at hl8 HS8
  obtain ⟨g0, off, rfl, hg0, hc0⟩ := hv.atB 0 (by omega)
  obtain ⟨g1, off1, he1, _, hc1⟩ := hv.atB 1 (by omega)
  simp at he1
  obtain ⟨rfl, rfl⟩ := he1
  have HKL : Hid ((L.drop 8).length = k) := by unfold Hid; rw [List.length_drop]; have := HN.out; omega
  have HK := hid hk
  have HRL := hid (show 4 ≤ (L.drop 4).length by rw [List.length_drop]; have := HN.out; omega)
  have HSV := hid hv
  have HW1 : Hid (w1 = w.alloc (.cells #[.int .u8 0, .int .u8 0, .int .u32 0, .slice none 0 0] 37)) := hw1
  have HB1 := hid hb1
  have HTH : Hid (∀ u, Below w1.heap.size w1 u → u.there w.heap.size 0 4) := fun u hu => by
    refine there_blk (C := zeroC) (t := 37) ?_ rfl
    rw [hu.block _ (by omega), hw1]
    exact heap_alloc_new w _
  rw [Nat.add_zero] at hc0
  have b0 : (0 : Int) < (n : Int) := by omega
  have b1 : (1 : Int) < (n : Int) := by omega
  have HS1 := hid hs1
  generalize byt L 0 = x0 at *
  generalize byt L 1 = x1 at *
  clear hw1 hb1 hs1 hv hs HSM0 hc hC he hk
  go_enter Tryd.func26, Tryd.ntmps26
  go_upto_region 1 with fail
  rw [← HW1.out]
  go_wp2_with fail
  refine HSM.out.mono ?_
  rintro _ w2 ⟨rfl, hb2⟩
  have HBW : Hid (∀ u, Below w1.heap.size w1 u → Below w.heap.size w u) := fun u hu => HB1.out.trans (hu.mono HB1.out.size)
  have HB2 := hid hb2
  clear hb2
  go_wp2_with (first | (refine wpList_copy_splice rfl (.tmp 25) (.tmp 27) 25 25 rfl 5 Tryd.underlying25 size5 _ _ k k k (cap - 8) rfl rfl w2.heap.size 0 (madeCells #[.int .u8 0] k).toList 5 ?c1 (bs (L.drop 8)) ?c2 ?c3 ?c4 ?c5 w2.heap.size w2 ?c6 ?c7 ?_) | fail)
  case c1 => rw [Array.toArray_toList]; exact heap_alloc_new w2 _
  case c2 => show (bs _).length = min k k; rw [Nat.min_self, bs, List.length_map]; exact HKL.out
  case c3 => exact fun hp => (HS8.out.below (HBW.out _ (HB2.out.alloc HB2.out.size _))).src hp
  case c4 => rw [bs, List.length_map, HKL.out, Array.length_toList, size_madeCells]; omega
  case c5 => intro q hq; obtain ⟨y, _, rfl⟩ := List.mem_map.1 hq; rfl
  case c6 => exact (Below.refl _ _).alloc (Nat.le_refl _) _
  case c7 => exact Nat.le_refl _
  intro w3 HG hb3
  rw [splice_whole (by rw [bs, List.length_map, HKL.out, Array.length_toList, size_madeCells])] at HG
  have hb13 : Below w1.heap.size w1 w3 := HB2.out.trans (hb3.mono HB2.out.size)
  have hbw : Below w.heap.size w w3 := HBW.out _ hb13
  have HSB := hid (sees_blk (t := 5) HG.out HKL.out (by have := HK.out; omega) (fun x hx => HSV.out.bytes x (List.mem_of_mem_drop hx)))
  have d0 : w3.cell? ⟨g0, off, none⟩ = some (.int .u8 (x0 : Int)) := (hbw.cell (p := ⟨g0, _, none⟩) hg0).trans hc0
  have d1 : w3.cell? ⟨g0, off + 1, none⟩ = some (.int .u8 (x1 : Int)) := (hbw.cell (p := ⟨g0, _, none⟩) hg0).trans hc1
  obtain ⟨r, hr⟩ : ∃ r, r = (byt (L.drop 4) 0 * 256 + byt (L.drop 4) 1) * 65536 + (byt (L.drop 4) 2 * 256 + byt (L.drop 4) 3) := ⟨_, rfl⟩
  have HR := hid hr
  have HRD : Hid (∀ u, Below w3.heap.size w3 u → Calls Tryd.prog 41 #[.slice a4 (n - 4) (cap - 4)] u fun e w' => e = .returned (.int .u32 (r : Int)) ∧ Below u.heap.size u w') := fun u hu => by
    refine (iread32_any _ (L.drop 4) u (HS4.out.below (hbw.trans (hu.mono hbw.size))) HRL.out).mono ?_
    rintro e w' ⟨rfl, hb⟩
    rw [← HR.out]
    exact ⟨rfl, hb⟩
  have HB3 := hid hb3
  have HB13 := hid hb13
  clear hr hb3 hb13 hbw HG hc0 hc1 hmk hl8 HS8 HSM
  obtain ⟨zz, hzz⟩ : ∃ zz : Array Value, zz = #[.int .u8 (x0 : Int), .int .u8 (x1 : Int), .int .u32 (r : Int), .slice (some ⟨w2.heap.size, 0, none⟩) k k] := ⟨_, rfl⟩
  have HZ := hid hzz
  have HONE : Hid (zz.all (·.oneCell') = true) := by unfold Hid; rw [hzz]; simp [Value.oneCell']
  have HINF : Hid ((Tryd.prog.info? 37).map (·.size) = some zz.size) := by unfold Hid; rw [hzz]; exact size_ct
  have HTZ : Hid (∀ u, Below w3.heap.size w3 u → u.there w.heap.size 0 zz.size) := fun u hu => by
    rw [hzz]; exact HTH.out _ (HB13.out.trans (hu.mono HB13.out.size))
  have HEND : Hid (∀ u, Below w3.heap.size w3 u → (loadVar 37 ⟨w.heap.size, 0, none⟩).run Tryd.prog (u.setCells w.heap.size 0 zz.toList) = .ok (.agg zz) (u.setCells w.heap.size 0 zz.toList) ∧ Below w.heap.size w (u.setCells w.heap.size 0 zz.toList) ∧ SeesB (u.setCells w.heap.size 0 zz.toList) (.slice (some ⟨w2.heap.size, 0, none⟩) k k) (L.drop 8)) := fun u hu => by
    have hb := HB13.out.trans (hu.mono HB13.out.size)
    refine ⟨load_cell (HTZ.out u hu) Tryd.underlying37 HINF.out, below_setCells (Nat.le_refl _) _ _ _ (HBW.out _ hb), ?_⟩
    refine sees_setI (HSB.out.below hu) (fun a ha => ?_)
    cases ha
    have := HB2.out.size
    have := HS1.out
    show w2.heap.size ≠ w.heap.size
    omega
  clear hzz HTH
  go_upto_region 9 with fail
  refine wp_region_mono' 11 (fun i => 29 + i) (Vs [.slice (some ⟨g0, off, none⟩) n cap, .pointer (some ⟨g0, off, none⟩), .int .u8 (x0 : Int), .slice (some ⟨g0, off, none⟩) n cap, .pointer (some ⟨g0, off + 1, none⟩), .int .u8 (x1 : Int), .slice (some ⟨g0, off, none⟩) n cap, .slice a4 (n - 4) (cap - 4), .int .u32 (r : Int), .slice (some ⟨w2.heap.size, 0, none⟩) k k, .agg zz]) (by kernel_rfl) (by kernel_rfl) (Vs.keeps _) ?_ ?_
  · simp only [List.take_succ_cons, List.take_zero, stepsOk]
    refine ⟨?_, ?_, ?_, ?_, ?_, ?_, ?_, ?_, ?_, ?_, ?_, trivial⟩
    · intro a u vs hb hold hdep
      exact wp_still (ex_move (.tmp 0) _ rfl (hold 0 (fun j _ => low (by decide)))) rfl rfl hb
    · intro a u vs hb hold hdep
      exact wp_still (ex_index _ _ _ _ _ _ rfl (Vs.dep (hdep ⟨0, .data⟩ (by simp) rfl (by decide)) rfl) rfl (idx_at n cap g0 off 0 0 rfl (by omega) u)) rfl rfl hb
    · intro a u vs hb hold hdep
      refine wp_still (ex_load _ _ _ _ rfl (Vs.dep (hdep ⟨1, .data⟩ (by simp) rfl (by decide)) rfl) (load_u8 ((hb.cell (p := ⟨g0, _, none⟩) (World.block_lt_of_cell? w3 _ d0)).trans d0))) rfl rfl hb
    · intro a u vs hb hold hdep
      exact wp_still (ex_move (.tmp 0) _ rfl (hold 0 (fun j _ => low (by decide)))) rfl rfl hb
    · intro a u vs hb hold hdep
      exact wp_still (ex_index _ _ _ _ _ _ rfl (Vs.dep (hdep ⟨3, .data⟩ (by simp) rfl (by decide)) rfl) rfl (idx_at n cap g0 off 1 1 rfl (by omega) u)) rfl rfl hb
    · intro a u vs hb hold hdep
      refine wp_still (ex_load _ _ _ _ rfl (Vs.dep (hdep ⟨4, .data⟩ (by simp) rfl (by decide)) rfl) (load_u8 ((hb.cell (p := ⟨g0, _, none⟩) (World.block_lt_of_cell? w3 _ d1)).trans d1))) rfl rfl hb
    · intro a u vs hb hold hdep
      exact wp_still (ex_move (.tmp 0) _ rfl (hold 0 (fun j _ => low (by decide)))) rfl rfl hb
    · intro a u vs hb hold hdep
      exact wp_still (ex_cut _ _ _ _ _ _ rfl (Vs.dep (hdep ⟨6, .data⟩ (by simp) rfl (by decide)) rfl) rfl (hl4 u)) rfl rfl hb
    · intro a u vs hb hold hdep
      have e1 : a.eval (.tmp 36) = .slice a4 (n - 4) (cap - 4) := Vs.dep (hdep ⟨7, .data⟩ (by simp) rfl (by decide)) rfl
      refine wp_call 41 _ _ rfl (enters_of Tryd.func41 (by kernel_rfl) rfl) #[.slice a4 (n - 4) (cap - 4)] (by simp only [List.map_toArray, List.map_cons, List.map_nil, e1]) ?_
      refine (HRD.out u hb).mono ?_
      rintro _ u' ⟨rfl, hb'⟩
      exact ⟨_, rfl, _, rfl, rfl, hb.trans (hb'.mono hb.size), hb'⟩
    · intro a u vs hb hold hdep
      exact wp_still (ex_move (.tmp 4) _ rfl (hold 4 (fun j _ => low (by decide)))) rfl rfl hb
    · intro a u vs hb hold hdep
      have e2 : a.eval (.tmp 31) = .int .u8 (x0 : Int) := Vs.dep (hdep ⟨2, .data⟩ (by simp) rfl (by decide)) rfl
      have e5 : a.eval (.tmp 34) = .int .u8 (x1 : Int) := Vs.dep (hdep ⟨5, .data⟩ (by simp) rfl (by decide)) rfl
      have e8 : a.eval (.tmp 37) = .int .u32 (r : Int) := Vs.dep (hdep ⟨8, .data⟩ (by simp) rfl (by decide)) rfl
      have e9 : a.eval (.tmp 38) = .slice (some ⟨w2.heap.size, 0, none⟩) k k := Vs.dep (hdep ⟨9, .data⟩ (by simp) rfl (by decide)) rfl
      refine wp_still (ex_build _ _ #[(0, .int .u8 (x0 : Int)), (1, .int .u8 (x1 : Int)), (2, .int .u32 (r : Int)), (3, .slice (some ⟨w2.heap.size, 0, none⟩) k k)] (.agg zz) rfl (by simp only [List.map_toArray, List.map_cons, List.map_nil, e2, e5, e8, e9]) ?_) rfl rfl hb
      rw [HZ.out]
      exact build_ct _ _ _ _ _ _ u
  intro vs u hb hF
  have e0 : vs 0 = .slice (some ⟨g0, off, none⟩) n cap := (Option.some.inj (hF 0 (by decide))).symm
  have e1 : vs 1 = .pointer (some ⟨g0, off, none⟩) := (Option.some.inj (hF 1 (by decide))).symm
  have e2 : vs 2 = .int .u8 (x0 : Int) := (Option.some.inj (hF 2 (by decide))).symm
  have e3 : vs 3 = .slice (some ⟨g0, off, none⟩) n cap := (Option.some.inj (hF 3 (by decide))).symm
  have e4 : vs 4 = .pointer (some ⟨g0, off + 1, none⟩) := (Option.some.inj (hF 4 (by decide))).symm
  have e5 : vs 5 = .int .u8 (x1 : Int) := (Option.some.inj (hF 5 (by decide))).symm
  have e6 : vs 6 = .slice (some ⟨g0, off, none⟩) n cap := (Option.some.inj (hF 6 (by decide))).symm
  have e7 : vs 7 = .slice a4 (n - 4) (cap - 4) := (Option.some.inj (hF 7 (by decide))).symm
  have e8 : vs 8 = .int .u32 (r : Int) := (Option.some.inj (hF 8 (by decide))).symm
  have e9 : vs 9 = .slice (some ⟨w2.heap.size, 0, none⟩) k k := (Option.some.inj (hF 9 (by decide))).symm
  have e10 : vs 10 = .agg zz := (Option.some.inj (hF 10 (by decide))).symm
  simp only [List.drop_succ_cons, List.drop_zero, puts, List.range, List.range.loop, List.foldr, if_true, Act.put, e0, e1, e2, e3, e4, e5, e6, e7, e8, e9, e10, Nat.reduceAdd, List.setIfInBounds_toArray, List.set_cons_succ, List.set_cons_zero]
  clear e0 e1 e2 e3 e4 e5 e6 e7 e8 e9 e10 hF
  have HTU := hid (HTZ.out u hb)
  obtain ⟨q1, q2, q3⟩ := HEND.out u hb
  have HLV := hid q1
  have HBF := hid q2
  have HSF := hid q3
  clear q1 q2 q3
  go_wp2_with (first
    | (refine wpList_store_mid rfl 37 (.tmp 2) (.tmp 39) rfl w.heap.size 0 zz rfl rfl HTU.out HINF.out HONE.out ?_)
    | fail)
  generalize u.setCells w.heap.size 0 zz.toList = wf at HLV HBF HSF ⊢
  refine bodyPost_ret (v := .tuple #[.agg zz, .int .i64 0]) (by simp [results, Tryd.results26, asAddr, HLV.out]) rfl ?_
  exact ⟨w2.heap.size, k, by rw [HZ.out, HR.out]; rfl, HSF.out, by have := HB2.out.size; have := HS1.out; omega, HBF.out⟩
end Go.Proofs.YtcboenmmkaochaaDoor.N

namespace Go.Proofs.YtcboenmmkaochaaDoor.N
open Go.ChangeShapes Go.WideShapes Go.ChangeAt Go.RowKit
set_option maxHeartbeats 2000000
set_option maxRecDepth 100000

theorem iparse_any (v : Value) (L : List Nat) (w : World) (hv : SeesB w v L) :
    Calls Tryd.prog 26 #[v] w fun e w' => ∃ ao n cap, e = .returned (.tuple #[.agg (ctCells (Im.prC L) (.slice ao n cap)), .int .i64 (Im.prE L)]) ∧ SeesB w' (.slice ao n cap) (Im.prC L).B ∧ (∀ a, ao = some a → w.heap.size ≤ a.block) ∧ Below w.heap.size w w' := by
  by_cases he : Im.prE L = 0
  · refine (iparse_good v L w hv he).mono ?_
    rintro e w' ⟨g, k, rfl, hs, hg, hb⟩
    rw [he]
    exact ⟨_, _, _, rfl, hs, (fun a ha => by cases ha; exact hg), hb⟩
  · refine (iparse_bad v L w hv he).mono ?_
    rintro e w' ⟨rfl, hb⟩
    have hc : Im.prC L = Im.none0 := by unfold Im.prC; rw [if_neg he]
    rw [hc]
    exact ⟨none, 0, 0, rfl, sees_nil _, (fun a ha => by cases ha), hb⟩

end Go.Proofs.YtcboenmmkaochaaDoor.N

namespace Go.Proofs.YtcboenmmkaochaaDoor.N
open Go.ChangeShapes Go.WideShapes Go.ChangeAt Go.RowKit
set_option maxRecDepth 100000

theorem cells_ct : Tryd.prog.cellsOf 37 = 4 := by kernel_rfl
theorem und_ad : Tryd.prog.underlying 24 = some (.int .u32) := by kernel_rfl
theorem cell1_ad : Tryd.prog.cellsOf 24 = 1 := by kernel_rfl
theorem und_w : Tryd.prog.underlying 23 = some (.int .u32) := by kernel_rfl
theorem cell1_w : Tryd.prog.cellsOf 23 = 1 := by kernel_rfl
theorem und_ct : ∃ f0 f1 f2 f3, Tryd.prog.underlying 37 = some (.struct #[f0, f1, f2, f3]) ∧ f0.type = 5 ∧ f0.offset = 0 ∧ f1.type = 5 ∧ f1.offset = 1 ∧ f2.type = 23 ∧ f2.offset = 2 ∧ f3.type = 25 ∧ f3.offset = 3 := ⟨_, _, _, _, Tryd.underlying37, rfl, rfl, rfl, rfl, rfl, rfl, rfl, rfl⟩

section
variable {H : Type} {enc : TypeId × Value → H} {W : World}

/-- A message that reads. -/
theorem open_ct {fuel : Nat} {cs : List Value} {x : DataW H × List MemPlace} (h : DataW.trod enc Tryd.prog W 0 (fun _ => true) true fuel 37 cs = some x) :
    ∃ (m : Im.Ct) (vm : Value), cs = (ctCells m vm).toList ∧ m.Ok ∧ SeesB W vm m.B ∧ Fits x.1 37 m.B.length ∧ vm.oneCell' = true := by
  obtain ⟨f0, f1, f2, f3, hu, t0, o0, t1, o1, t2, o2, t3, o3⟩ := und_ct
  obtain ⟨xs, n, _, rfl, hl, hxl, hf⟩ := DataW.trod_struct hu h
  match xs, hxl with
  | [y0, y1, y2, y3], _ =>
    have g0 := hf 0 f0 rfl
    have g1 := hf 1 f1 rfl
    have g2 := hf 2 f2 rfl
    have g3 := hf 3 f3 rfl
    rw [t0, o0, cell1_5] at g0
    rw [t1, o1, cell1_5] at g1
    rw [t2, o2, cell1_w] at g2
    rw [t3, o3, cell1_25] at g3
    rw [cells_ct] at hl
    obtain ⟨z0, e0, _, w0⟩ := DataW.trod_int u5 g0
    obtain ⟨T, rfl, hT⟩ := wf_u8 w0
    obtain ⟨z1, e1, _, w1⟩ := DataW.trod_int u5 g1
    obtain ⟨C, rfl, hC⟩ := wf_u8 w1
    obtain ⟨z2, e2, _, w2⟩ := DataW.trod_int und_w g2
    obtain ⟨R, rfl, hR⟩ := wf_u32 w2
    obtain ⟨vm, B, e3, hs, hfit, ho⟩ := open_bytes g3
    refine ⟨⟨T, C, R, B⟩, vm, ?_, ⟨hT, hC, hR⟩, hs, ⟨?_, fun hw => ?_⟩, ho⟩
    · match cs, hl with
      | [c0, c1, c2, c3], _ =>
        simp at e0 e1 e2 e3
        simp [ctCells, e0, e1, e2, e3]
    · simp only [List.map_cons, List.map_nil, Rows.uptoBulk, Rows.uptoBulkAll]
      have := hfit.bulk
      omega
    · refine hfit.room fun k hk => hw k ?_
      simp only [DataW.weights, hu]
      exact DataW.weights_mem_each (j := 3) (t := 25) (d := y3.1) (by simp [t3]) rfl _ hk
end
end Go.Proofs.YtcboenmmkaochaaDoor.N

namespace Go.Proofs.YtcboenmmkaochaaDoor.N
open Go.ChangeShapes Go.WideShapes Go.ChangeAt Go.RowKit
set_option maxHeartbeats 2000000
set_option maxRecDepth 100000

/-- The table of kinds. -/
def rowsK : List Value := [.bool false, .int .u8 0, .bool false, .int .u8 0, .bool false, .int .u8 0, .bool true, .int .u8 16, .bool true, .int .u8 0, .bool true, .int .u8 0, .bool false, .int .u8 0, .bool false, .int .u8 0, .bool false, .int .u8 0, .bool false, .int .u8 0, .bool false, .int .u8 0, .bool true, .int .u8 2, .bool true, .int .u8 3]

/-- It lies in the world. -/
def TabK (w : World) : Prop := (∀ j (h : j < 26), w.cell? ⟨0, j, none⟩ = some rowsK[j]) ∧ 0 < w.heap.size

theorem TabK.below {w w' : World} (h : TabK w) (hb : Below w.heap.size w w') : TabK w' :=
  ⟨fun j hj => (hb.cell (p := ⟨0, j, none⟩) h.2).trans (h.1 j hj), Nat.lt_of_lt_of_le h.2 hb.size⟩

/-- Is a message of that type a fault? -/
def kF (t : Nat) : Bool := t == 3 || t == 4 || t == 5 || t == 11 || t == 12
/-- How many codes it has. -/
def kC (t : Nat) : Nat := if t = 3 then 16 else if t = 11 then 2 else if t = 12 then 3 else 0

theorem kC_lt (t : Nat) : kC t < 256 := by unfold kC; split <;> try split <;> try split
                                           all_goals omega

theorem rows_at (t : Nat) (ht : t < 13) : rowsK[t * 2]? = some (.bool (kF t)) ∧ rowsK[t * 2 + 1]? = some (.int .u8 ((kC t : Nat) : Int)) := by
  have h : t = 0 ∨ t = 1 ∨ t = 2 ∨ t = 3 ∨ t = 4 ∨ t = 5 ∨ t = 6 ∨ t = 7 ∨ t = 8 ∨ t = 9 ∨ t = 10 ∨ t = 11 ∨ t = 12 := by omega
  rcases h with rfl | rfl | rfl | rfl | rfl | rfl | rfl | rfl | rfl | rfl | rfl | rfl | rfl <;> exact ⟨rfl, rfl⟩

theorem TabK.at {w : World} (h : TabK w) (t : Nat) (ht : t < 13) : w.cell? ⟨0, t * 2, none⟩ = some (.bool (kF t)) ∧ w.cell? ⟨0, t * 2 + 1, none⟩ = some (.int .u8 ((kC t : Nat) : Int)) := by
  obtain ⟨h1, h2⟩ := rows_at t ht
  refine ⟨(h.1 (t * 2) (by omega)).trans ?_, (h.1 (t * 2 + 1) (by omega)).trans ?_⟩
  · rw [← h1]; exact (List.getElem?_eq_getElem _).symm
  · rw [← h2]; exact (List.getElem?_eq_getElem _).symm

theorem size_kd : (Tryd.prog.info? 60).map (·.size) = some 2 := by kernel_rfl

theorem kindOf_any (t : Nat) (w : World) (ht : t < 256) (hk : TabK w) :
    Calls Tryd.prog 32 #[.int .u8 (t : Int)] w fun e w' => e = .returned (.agg #[.bool (kF t), .int .u8 ((kC t : Nat) : Int)]) ∧ Below w.heap.size w w' := by
  obtain ⟨w1, hw1⟩ : ∃ w1, w1 = w.alloc (.cells #[.bool false, .int .u8 0] 60) := ⟨_, rfl⟩
  have hb1 : Below w.heap.size w w1 := by rw [hw1]; exact (Below.refl _ _).alloc (Nat.le_refl _) _
  obtain ⟨zz, hzz⟩ : ∃ zz : Array Value, zz = #[.bool (kF t), .int .u8 ((kC t : Nat) : Int)] := ⟨_, rfl⟩
  have HZ := hid hzz
  have HTU : Hid (w1.there w.heap.size 0 zz.size) := by
    unfold Hid; rw [hzz]
    exact there_blk (C := #[.bool false, .int .u8 0]) (t := 60) (by rw [hw1]; exact heap_alloc_new w _) rfl
  have HONE : Hid (zz.all (·.oneCell') = true) := by unfold Hid; rw [hzz]; simp [Value.oneCell']
  have HINF : Hid ((Tryd.prog.info? 60).map (·.size) = some zz.size) := by unfold Hid; rw [hzz]; exact size_kd
  have HLV := hid (load_cell HTU.out Tryd.underlying60 HINF.out)
  have HBF := hid (below_setCells (Nat.le_refl _) zz.toList 0 w1 hb1)
  have HW1 := hid hw1
  have hk1 := hk.below hb1
  rw [← hzz]
  by_cases h13 : t < 13
  · obtain ⟨c0, c1⟩ := hk1.at t h13
    have HLD : Hid ((Instr.loadAt 60 (.pointer (some ⟨0, t * 2, none⟩))).run Tryd.prog w1 = .ok (.agg zz) w1) := by
      refine run_loadAt_mid w1 0 (t * 2) 60 zz.toList (.struct _) (fun j v hv => ?_) Tryd.underlying60 rfl (by rw [Array.length_toList]; exact HINF.out)
      rw [hzz] at hv
      match j, hv with
      | 0, hv => simp at hv; rw [Nat.add_zero, c0, hv]
      | 1, hv => simp at hv; rw [c1, hv]
    have b1 : (t : Int) < 13 := by omega
    have b2 : ¬ (13 : Int) ≤ (t : Int) := by omega
    clear hw1 hb1 hzz hk hk1 c0 c1
    go_enter Tryd.func32, Tryd.ntmps32
    go_upto_region 1 with fail
    rw [← HW1.out]
    go_wp2_with (first
      | (refine wpList_ld 60 ⟨0, t * 2, none⟩ _ rfl rfl HLD.out rfl ?_)
      | (refine wpList_store_mid rfl 60 (.tmp 2) (.tmp 8) rfl w.heap.size 0 zz rfl rfl HTU.out HINF.out HONE.out ?_)
      | fail)
    generalize w1.setCells w.heap.size 0 zz.toList = wf at HLV HBF ⊢
    refine bodyPost_ret (v := .agg zz) (by simp [results, Tryd.results32, asAddr, HLV.out]) rfl ?_
    exact ⟨rfl, HBF.out⟩
  · have HZ2 : Hid (zz = #[.bool false, .int .u8 0]) := by
      unfold Hid; rw [hzz]
      have h1 : kF t = false := by unfold kF; simp; omega
      have h2 : kC t = 0 := by unfold kC; rw [if_neg (by omega), if_neg (by omega), if_neg (by omega)]
      rw [h1, h2]; rfl
    have b2 : (13 : Int) ≤ (t : Int) := by omega
    clear hw1 hb1 hzz hk hk1
    go_enter Tryd.func32, Tryd.ntmps32
    go_upto_region 1 with fail
    rw [← HW1.out]
    go_wp2_with (first
      | (refine wpList_store_mid rfl 60 (.tmp 2) (.tmp 5) rfl w.heap.size 0 zz rfl (by rw [HZ2.out]; rfl) HTU.out HINF.out HONE.out ?_)
      | fail)
    generalize w1.setCells w.heap.size 0 zz.toList = wf at HLV HBF ⊢
    refine bodyPost_ret (v := .agg zz) (by simp [results, Tryd.results32, asAddr, Act.put, HLV.out]) rfl ?_
    exact ⟨rfl, HBF.out⟩

theorem isFault_any (t : Nat) (w : World) (ht : t < 256) (hk : TabK w) :
    Calls Tryd.prog 36 #[.int .u8 (t : Int)] w fun e w' => e = .returned (.bool (kF t)) ∧ Below w.heap.size w w' := by
  have HK := hid (kindOf_any t w ht hk)
  have hfl : ∀ u : World, (Instr.field 60 (.agg #[.bool (kF t), .int .u8 ((kC t : Nat) : Int)]) 0).run Tryd.prog u = .ok (.bool (kF t)) u := fun u => by kernel_rfl
  generalize kF t = b at *
  generalize kC t = n at *
  clear hk
  go_enter Tryd.func36, Tryd.ntmps36
  go_wp2_with fail
  refine HK.out.mono ?_
  rintro _ w2 ⟨rfl, hb⟩
  go_wp2_with fail
  go_ret
  exact ⟨rfl, hb⟩

/-- The greatest argument. -/
def mxA (t c : Nat) : Int := if t = 3 ∧ c = 4 then 65535 else if t = 12 ∧ c = 0 then 255 else 0

theorem maxArg_any (t c : Nat) (w : World) :
    Calls Tryd.prog 33 #[.int .u8 (t : Int), .int .u8 (c : Int)] w fun e w' => e = .returned (.int .i64 (mxA t c)) ∧ w' = w := by
  by_cases h1 : t = 3 ∧ c = 4
  · obtain ⟨rfl, rfl⟩ := h1
    have HM : Hid (mxA 3 4 = 65535) := rfl
    rw [HM.out]
    go_enter Tryd.func33, Tryd.ntmps33
    go_wp2
    go_ret
    exact ⟨rfl, rfl⟩
  · by_cases h2 : t = 12 ∧ c = 0
    · obtain ⟨rfl, rfl⟩ := h2
      have HM : Hid (mxA 12 0 = 255) := rfl
      rw [HM.out]
      go_enter Tryd.func33, Tryd.ntmps33
      go_wp2
      go_ret
      exact ⟨rfl, rfl⟩
    · have HM : Hid (mxA t c = 0) := by unfold Hid mxA; rw [if_neg h1, if_neg h2]
      rw [HM.out]
      by_cases e1 : t = 3
      · subst e1
        have q4 : ((c : Int) == 4) = false := by rw [beq_eq_false_iff_ne]; omega
        clear h1 h2
        go_enter Tryd.func33, Tryd.ntmps33
        go_wp2
        go_ret
        exact ⟨rfl, rfl⟩
      · by_cases e2 : t = 12
        · subst e2
          have q4 : ((c : Int) == 0) = false := by rw [beq_eq_false_iff_ne]; omega
          clear h1 h2 e1
          go_enter Tryd.func33, Tryd.ntmps33
          go_wp2
          go_ret
          exact ⟨rfl, rfl⟩
        · have q3 : ((t : Int) == 3) = false := by rw [beq_eq_false_iff_ne]; omega
          have q12 : ((t : Int) == 12) = false := by rw [beq_eq_false_iff_ne]; omega
          clear h1 h2 e1 e2
          go_enter Tryd.func33, Tryd.ntmps33
          go_wp2
          go_ret
          exact ⟨rfl, rfl⟩

/-- May such a fault be told? -/
def mayT (t c : Nat) (a : Int) : Bool := decide (c < kC t) && (decide (0 ≤ a) && decide (a ≤ mxA t c))

theorem mayTell_any (t c : Nat) (a : Int) (w : World) (ht : t < 256) (hk : TabK w) :
    Calls Tryd.prog 17 #[.int .u8 (t : Int), .int .u8 (c : Int), .int .i64 a] w fun e w' => e = .returned (.bool (mayT t c a)) ∧ Below w.heap.size w w' := by
  have HK := hid (kindOf_any t w ht hk)
  have hfl : ∀ u : World, (Instr.field 60 (.agg #[.bool (kF t), .int .u8 ((kC t : Nat) : Int)]) 1).run Tryd.prog u = .ok (.int .u8 ((kC t : Nat) : Int)) u := fun u => by kernel_rfl
  have HMX : Hid (∀ u, Calls Tryd.prog 33 #[.int .u8 (t : Int), .int .u8 (c : Int)] u fun e w' => e = .returned (.int .i64 (mxA t c)) ∧ w' = u) := fun u => maxArg_any t c u
  have HR : Hid (mayT t c a = (decide ((c : Int) < ((kC t : Nat) : Int)) && (decide (0 ≤ a) && decide (a ≤ mxA t c)))) := by
    unfold Hid mayT
    congr 1
    simp
  generalize mayT t c a = r at *
  generalize mxA t c = mx at *
  generalize kF t = b at *
  generalize kC t = n at *
  clear hk
  by_cases h1 : (c : Int) < (n : Int)
  · by_cases h2 : 0 ≤ a
    · go_enter Tryd.func17, Tryd.ntmps17
      go_wp2_with fail
      refine HK.out.mono ?_
      rintro _ w2 ⟨rfl, hb⟩
      go_wp2_with fail
      refine (HMX.out _).mono ?_
      rintro _ _ ⟨rfl, rfl⟩
      go_wp2_with fail
      go_ret
      exact ⟨ret_bool (by rw [HR.out]; simp [h1, h2]), hb⟩
    · go_enter Tryd.func17, Tryd.ntmps17
      go_wp2_with fail
      refine HK.out.mono ?_
      rintro _ w2 ⟨rfl, hb⟩
      go_wp2_with fail
      go_ret
      exact ⟨ret_bool (by rw [HR.out]; simp; omega), hb⟩
  · go_enter Tryd.func17, Tryd.ntmps17
    go_wp2_with fail
    refine HK.out.mono ?_
    rintro _ w2 ⟨rfl, hb⟩
    go_wp2_with fail
    go_ret
    exact ⟨ret_bool (by rw [HR.out]; simp; omega), hb⟩

/-- Where the argument lies. -/
def rstN (t a : Nat) : Nat := if t = 12 then a * 16777216 else a

theorem restOf_any (t c a : Nat) (w : World) (hm : (a : Int) ≤ mxA t c) :
    Calls Tryd.prog 20 #[.int .u8 (t : Int), .int .i64 (a : Int)] w fun e w' => e = .returned (.int .u32 ((rstN t a : Nat) : Int)) ∧ w' = w := by
  by_cases h : t = 12
  · subst h
    have ha : a ≤ 255 := by
      unfold mxA at hm
      split at hm
      · omega
      · split at hm <;> omega
    have HR : Hid (rstN 12 a = a * 16777216) := rfl
    generalize rstN 12 a = r at *
    clear hm
    go_enter Tryd.func20, Tryd.ntmps20
    go_wp2
    go_ret
    exact ⟨ret_int (by rw [HR.out]; omega), rfl⟩
  · have ha : a ≤ 65535 := by
      unfold mxA at hm
      split at hm
      · omega
      · split at hm <;> omega
    have HR : Hid (rstN t a = a) := by unfold Hid rstN; rw [if_neg h]
    have q12 : ((t : Int) == 12) = false := by rw [beq_eq_false_iff_ne]; omega
    rw [HR.out]
    clear hm h
    go_enter Tryd.func20, Tryd.ntmps20
    go_wp2
    go_ret
    exact ⟨rfl, rfl⟩
end Go.Proofs.YtcboenmmkaochaaDoor.N

namespace Go.Proofs.YtcboenmmkaochaaDoor.Ad
open Go.ChangeShapes Go.WideShapes Go.ChangeAt Go.RowKit
set_option maxHeartbeats 400000

theorem ret_int {k : IntKind} {a b : Int} (h : a = b) : Ending.returned (.int k a) = .returned (.int k b) := by rw [h]
theorem ret_bool {a b : Bool} (h : a = b) : Ending.returned (.bool a) = .returned (.bool b) := by rw [h]
theorem ret_int2 {k l : IntKind} {a b c d : Int} (h : a = b) (g : c = d) : Ending.returned (.tuple #[.int k a, .int l c]) = .returned (.tuple #[.int k b, .int l d]) := by rw [h, g]
theorem hid {p : Prop} (h : p) : Hid p := h
theorem below_drewN {B : Nat} {a w : World} (h : Below B a w) (n : Nat) : Below B a (w.drewN n) := ⟨h.os, h.tape, h.output, h.size, h.block⟩

theorem two_blocks {w w4 : World} {o1 o2 : Obj} {q : Nat} (hb : Below (((w.alloc o1).drewN q).alloc o2).heap.size (((w.alloc o1).drewN q).alloc o2) w4) :
    w4.heap[w.heap.size]? = some o1 ∧ w4.heap[w.heap.size + 1]? = some o2 ∧ Below w.heap.size w w4 := by
  have e1 : ((w.alloc o1).drewN q).heap.size = w.heap.size + 1 := by show (w.alloc o1).heap.size = _; simp
  have hsz : (((w.alloc o1).drewN q).alloc o2).heap.size = w.heap.size + 2 := by
    rw [show (((w.alloc o1).drewN q).alloc o2).heap.size = ((w.alloc o1).drewN q).heap.size + 1 from by simp, e1]
  refine ⟨?_, ?_, ?_⟩
  · rw [hb.block _ (by omega), Below.heap_alloc _ _ _ (by omega)]
    exact heap_alloc_new w o1
  · rw [hb.block _ (by omega), ← e1]
    exact heap_alloc_new _ o2
  · exact ((below_drewN ((Below.refl _ w).alloc (Nat.le_refl _) o1) q).alloc (by omega) o2).trans (hb.mono (by omega))

theorem row_two {w : World} {b : Nat} {x y : Value} {T : TypeId} (h : w.heap[b]? = some (.cells #[x, y] T (0, 0))) : w.cell? ⟨b, 0, none⟩ = some x ∧ w.cell? ⟨b, 1, none⟩ = some y ∧ w.frozen? ⟨b, 0, none⟩ = false ∧ w.frozen? ⟨b, 1, none⟩ = false ∧ b < w.heap.size := by
  refine ⟨by rw [cell_of_row w b 0 _ _ _ h]; rfl, by rw [cell_of_row w b 1 _ _ _ h]; rfl, by simp [World.frozen?, h], by simp [World.frozen?, h], (Array.getElem?_eq_some_iff.1 h).1⟩

theorem back_two {w : World} {b : Nat} {x y : Value} {T : TypeId} (h : w.heap[b]? = some (.cells #[x, y] T (0, 0))) (X Y : Value) : (w.setCell ⟨b, 0, none⟩ X).cell? ⟨b, 0, none⟩ = some X ∧ ((w.setCell ⟨b, 0, none⟩ X).setCell ⟨b, 1, none⟩ Y).cell? ⟨b, 1, none⟩ = some Y := by
  have h1 : (w.setCell ⟨b, 0, none⟩ X).heap[b]? = some (.cells #[X, y] T (0, 0)) := by simp [World.setCell, Array.getElem?_modify, h]
  have h2 : ((w.setCell ⟨b, 0, none⟩ X).setCell ⟨b, 1, none⟩ Y).heap[b]? = some (.cells #[X, Y] T (0, 0)) := by
    generalize (w.setCell ⟨b, 0, none⟩ X) = W at h1 ⊢
    simp [World.setCell, Array.getElem?_modify, h1]
  exact ⟨(row_two h1).1, (row_two h2).2.1⟩

/-- A world behind calls that made memory and wrote none of the elder. -/
structure Beh (w : World) where
  wd : World
  ok : Below w.heap.size w wd

instance (w : World) : Nonempty (Beh w) := ⟨⟨w, Below.refl _ _⟩⟩

theorem wp_region_beh {P : Program} {id : Nat} {Q : Exit → Act → World → Prop} {a : Act} {w : World} {l : List Oper} (hm : P.follows .mixedOrders = true) (hB : Region.lexB .any l.toArray = true)
    (h : wpQuiet P l.toArray (fun w' => ∃ u : Beh w, w' = u.wd) (fun a' => ∀ w', (∃ u : Beh w, w' = u.wd) → Q .normal a' w') l a) : (Code.region id l.toArray true).wp P Q a w :=
  wp_region_quiet (C := fun w' => ∃ u : Beh w, w' = u.wd) hm hB ⟨⟨_, below_drewN (Below.refl _ _) 1⟩, rfl⟩ (by simpa using h)

theorem Calls.beh {P : Program} {f : FuncId} {args : Array Value} {w : World} {u : Beh w} {v : Value}
    (h : Calls P f args u.wd fun e w' => e = .returned v ∧ Below u.wd.heap.size u.wd w') : Calls P f args u.wd fun e w'' => e = .returned v ∧ ∃ u' : Beh w, w'' = u'.wd :=
  h.mono fun _ w' ⟨he, hb⟩ => ⟨he, ⟨w', u.ok.trans (hb.mono u.ok.size)⟩, rfl⟩

theorem Beh.two {w : World} {b : Nat} {x y : Value} {T : TypeId} (h : w.heap[b]? = some (.cells #[x, y] T (0, 0))) :
    (∀ u : Beh w, u.wd.cell? ⟨b, 0, none⟩ = some x) ∧ (∀ u : Beh w, u.wd.cell? ⟨b, 1, none⟩ = some y) := by
  have hlt : b < w.heap.size := (row_two h).2.2.2.2
  constructor <;> intro u
  · exact (row_two ((u.ok.block b hlt).trans h)).1
  · exact (row_two ((u.ok.block b hlt).trans h)).2.1

end Go.Proofs.YtcboenmmkaochaaDoor.Ad

namespace Go.Proofs.YtcboenmmkaochaaDoor.Ad.M

/-- The cover by halving, of the range from lo to hi, within the block of 2^K addresses at base. -/
def cut : Nat → Nat → Nat → Nat → List (Nat × Nat)
  | 0, base, lo, hi => if base < lo ∨ hi < base then [] else [(base, 0)]
  | K + 1, base, lo, hi =>
    if base + 2 ^ (K + 1) - 1 < lo ∨ hi < base then []
    else if lo ≤ base ∧ base + 2 ^ (K + 1) - 1 ≤ hi then [(base, K + 1)]
    else cut K base lo hi ++ cut K (base + 2 ^ K) lo hi

def cv (lo hi : Nat) : List (Nat × Nat) := cut 32 0 lo hi

/-- k is the greatest exponent of a block that begins at x and ends at hi at the latest. -/
def Wid (x hi k : Nat) : Prop := k ≤ 32 ∧ x % 2 ^ k = 0 ∧ x + 2 ^ k - 1 ≤ hi ∧ (k < 32 → ¬ (x % 2 ^ (k + 1) = 0 ∧ x + 2 ^ (k + 1) - 1 ≤ hi))

theorem p2 (K : Nat) : 2 ^ (K + 1) = 2 * 2 ^ K ∧ 0 < 2 ^ K := ⟨by rw [Nat.pow_succ]; omega, Nat.two_pow_pos K⟩

theorem p2_le {a b : Nat} (h : a ≤ b) : 2 ^ a ≤ 2 ^ b := Nat.pow_le_pow_right (by omega) h

theorem dvd_of_mod {a d : Nat} (h : a % d = 0) : d ∣ a := Nat.dvd_of_mod_eq_zero h

theorem mod_down {a j k : Nat} (h : a % 2 ^ k = 0) (hj : j ≤ k) : a % 2 ^ j = 0 :=
  Nat.mod_eq_zero_of_dvd (Nat.dvd_trans (Nat.pow_dvd_pow 2 hj) (dvd_of_mod h))

theorem mod_add {a b k : Nat} (h : a % 2 ^ k = 0) (g : b % 2 ^ k = 0) : (a + b) % 2 ^ k = 0 :=
  Nat.mod_eq_zero_of_dvd (Nat.dvd_add (dvd_of_mod h) (dvd_of_mod g))

theorem mod_pow {j k : Nat} (hj : j ≤ k) : 2 ^ k % 2 ^ j = 0 := Nat.mod_eq_zero_of_dvd (Nat.pow_dvd_pow 2 hj)

/-- Two multiples of d: the smaller one and d is at most the greater. -/
theorem step_le {a b d : Nat} (ha : a % d = 0) (hb : b % d = 0) (h : a < b) : a + d ≤ b := by
  obtain ⟨c, rfl⟩ := dvd_of_mod ha
  obtain ⟨e, rfl⟩ := dvd_of_mod hb
  have : c < e := Nat.lt_of_mul_lt_mul_left h
  calc d * c + d = d * (c + 1) := by rw [Nat.mul_add, Nat.mul_one]
    _ ≤ d * e := Nat.mul_le_mul_left _ this

theorem cut_out {K base lo hi : Nat} (h : base + 2 ^ K - 1 < lo ∨ hi < base) : cut K base lo hi = [] := by
  cases K with
  | zero => simp only [cut]; rw [if_pos (by simpa using h)]
  | succ K => simp only [cut]; rw [if_pos h]

theorem cut_full {K base lo hi : Nat} (h : lo ≤ base) (g : base + 2 ^ K - 1 ≤ hi) : cut K base lo hi = [(base, K)] := by
  have := Nat.two_pow_pos K
  cases K with
  | zero => simp only [cut]; rw [if_neg (by simp at g; omega)]
  | succ K => simp only [cut]; rw [if_neg (by omega), if_pos ⟨h, g⟩]

theorem cut_half {K base lo hi : Nat} (h : ¬ (base + 2 ^ (K + 1) - 1 < lo ∨ hi < base)) (g : ¬ (lo ≤ base ∧ base + 2 ^ (K + 1) - 1 ≤ hi)) :
    cut (K + 1) base lo hi = cut K base lo hi ++ cut K (base + 2 ^ K) lo hi := by
  simp only [cut]; rw [if_neg h, if_neg g]

theorem cut_gt : ∀ (K base lo hi : Nat), hi < lo → cut K base lo hi = [] := by
  intro K
  induction K with
  | zero => intro base lo hi h; simp only [cut]; rw [if_pos (by omega)]
  | succ K ih =>
    intro base lo hi h
    by_cases o : base + 2 ^ (K + 1) - 1 < lo ∨ hi < base
    · exact cut_out o
    · have := Nat.two_pow_pos (K + 1)
      rw [cut_half o (by omega), ih _ _ _ h, ih _ _ _ h]; rfl

theorem cut_lo : ∀ (K base lo hi : Nat), lo ≤ base → cut K base lo hi = cut K base base hi := by
  intro K
  induction K with
  | zero => intro base lo hi h; simp only [cut]; by_cases c : hi < base
            · rw [if_pos (.inr c), if_pos (.inr c)]
            · rw [if_neg (by omega), if_neg (by omega)]
  | succ K ih =>
    intro base lo hi h
    have hp := p2 K
    by_cases o : hi < base
    · rw [cut_out (.inr o), cut_out (.inr o)]
    · by_cases f : base + 2 ^ (K + 1) - 1 ≤ hi
      · rw [cut_full h f, cut_full (Nat.le_refl _) f]
      · rw [cut_half (by omega) (by omega), cut_half (by omega) (by omega), ih base lo hi h, ih (base + 2 ^ K) lo hi (by omega), ih (base + 2 ^ K) base hi (by omega)]

/-- The step from the left. -/
theorem cut_step : ∀ (K base x hi k : Nat), base % 2 ^ K = 0 → base ≤ x → x < base + 2 ^ K → k ≤ K → K ≤ 32 → Wid x hi k → cut K base x hi = (x, k) :: cut K base (x + 2 ^ k) hi := by
  intro K
  induction K with
  | zero =>
    intro base x hi k _ h1 h2 h3 _ hw
    have hk : k = 0 := by omega
    have hx : x = base := by simp at h2; omega
    subst hk; subst hx
    have := hw.2.2.1
    simp only [cut]
    rw [if_neg (by simp at this; omega), if_pos (by simp)]
  | succ K ih =>
    intro base x hi k hb h1 h2 h3 h32 hw
    have hp := p2 K
    obtain ⟨_, hm, hend, hmax⟩ := hw
    have hxhi : x ≤ hi := by have := Nat.two_pow_pos k; omega
    by_cases f : x ≤ base ∧ base + 2 ^ (K + 1) - 1 ≤ hi
    · have hxb : x = base := by omega
      subst hxb
      have hk : k = K + 1 := by
        by_cases e : k = K + 1
        · exact e
        · exfalso
          have hle : 2 ^ (k + 1) ≤ 2 ^ (K + 1) := p2_le (by omega)
          exact hmax (by omega) ⟨mod_down hb (by omega), by omega⟩
      subst hk
      rw [cut_full f.1 f.2, cut_out (.inl (by omega))]
    · have hkK : k ≤ K := by
        by_cases e : k = K + 1
        · exfalso
          subst e
          have hxb : x = base := by
            rcases Nat.lt_or_ge base x with h | h
            · have := step_le hb hm h; omega
            · omega
          subst hxb
          exact f ⟨Nat.le_refl _, hend⟩
        · omega
      have hbK : base % 2 ^ K = 0 := mod_down hb (by omega)
      have hmid : (base + 2 ^ K) % 2 ^ K = 0 := mod_add hbK (mod_pow (Nat.le_refl _))
      have hmidk : (base + 2 ^ K) % 2 ^ k = 0 := mod_down hmid hkK
      have hpk := Nat.two_pow_pos k
      rw [cut_half (by omega) f]
      rcases Nat.lt_or_ge x (base + 2 ^ K) with h | h
      · have hle := step_le hm hmidk h
        rw [ih base x hi k hbK h1 h hkK (by omega) ⟨by omega, hm, hend, hmax⟩]
        rw [cut_half (lo := x + 2 ^ k) (by omega) (by omega)]
        rw [cut_lo K (base + 2 ^ K) x hi (by omega), cut_lo K (base + 2 ^ K) (x + 2 ^ k) hi (by omega)]
        rfl
      · rw [cut_out (K := K) (base := base) (lo := x) (.inl (by omega)), List.nil_append]
        rw [ih (base + 2 ^ K) x hi k hmid h (by omega) hkK (by omega) ⟨by omega, hm, hend, hmax⟩]
        by_cases o : base + 2 ^ (K + 1) - 1 < x + 2 ^ k ∨ hi < base
        · rw [cut_out o, cut_out (K := K) (by omega)]
        · rw [cut_half (lo := x + 2 ^ k) o (by omega), cut_out (K := K) (base := base) (lo := x + 2 ^ k) (.inl (by omega)), List.nil_append]

theorem cv_step {x hi k : Nat} (hx : x < 4294967296) (hw : Wid x hi k) : cv x hi = (x, k) :: cv (x + 2 ^ k) hi :=
  cut_step 32 0 x hi k (by simp) (by omega) (by simpa using hx) hw.1 (by omega) hw

theorem cv_gt {lo hi : Nat} (h : hi < lo) : cv lo hi = [] := cut_gt _ _ _ _ h

theorem wid_from : ∀ (f x hi k : Nat), k + f = 32 → x % 2 ^ k = 0 → x + 2 ^ k - 1 ≤ hi → ∃ j, Wid x hi j := by
  intro f
  induction f with
  | zero => intro x hi k hk h1 h2; exact ⟨k, by omega, h1, h2, by omega⟩
  | succ f ih =>
    intro x hi k hk h1 h2
    by_cases c : x % 2 ^ (k + 1) = 0 ∧ x + 2 ^ (k + 1) - 1 ≤ hi
    · exact ih x hi (k + 1) (by omega) c.1 c.2
    · exact ⟨k, by omega, h1, h2, fun _ => c⟩

theorem wid_some {x hi : Nat} (h : x ≤ hi) : ∃ k, Wid x hi k := wid_from 32 x hi 0 rfl (by simp; omega) (by simpa using h)

/-- What the blocks of a cover are. -/
theorem cut_mem : ∀ (K base lo hi x k : Nat), base % 2 ^ K = 0 → (x, k) ∈ cut K base lo hi →
    k ≤ K ∧ x % 2 ^ k = 0 ∧ lo ≤ x ∧ x + 2 ^ k - 1 ≤ hi ∧ base ≤ x ∧ x + 2 ^ k ≤ base + 2 ^ K ∧
      (k < K → ¬ (lo ≤ x / 2 ^ (k + 1) * 2 ^ (k + 1) ∧ x / 2 ^ (k + 1) * 2 ^ (k + 1) + 2 ^ (k + 1) - 1 ≤ hi)) := by
  intro K
  induction K with
  | zero =>
    intro base lo hi x k _ h
    simp only [cut] at h
    split at h
    · cases h
    · simp at h; obtain ⟨rfl, rfl⟩ := h
      simp; omega
  | succ K ih =>
    intro base lo hi x k hb h
    have hp := p2 K
    by_cases o : base + 2 ^ (K + 1) - 1 < lo ∨ hi < base
    · rw [cut_out o] at h; cases h
    · by_cases f : lo ≤ base ∧ base + 2 ^ (K + 1) - 1 ≤ hi
      · rw [cut_full f.1 f.2] at h
        simp at h; obtain ⟨rfl, rfl⟩ := h
        exact ⟨Nat.le_refl _, hb, f.1, f.2, Nat.le_refl _, Nat.le_refl _, fun h => absurd h (Nat.lt_irrefl _)⟩
      · rw [cut_half o f, List.mem_append] at h
        have hbK : base % 2 ^ K = 0 := mod_down hb (by omega)
        have hmid : (base + 2 ^ K) % 2 ^ K = 0 := mod_add hbK (mod_pow (Nat.le_refl _))
        obtain ⟨c, hc⟩ := dvd_of_mod hb
        rcases h with h | h
        · obtain ⟨a1, a2, a3, a4, a5, a6, a7⟩ := ih base lo hi x k hbK h
          refine ⟨by omega, a2, a3, a4, a5, by omega, fun _ => ?_⟩
          by_cases e : k < K
          · exact a7 e
          · have hk : k = K := by omega
            subst hk
            have hx : x = base := by omega
            subst hx
            have : x / 2 ^ (k + 1) * 2 ^ (k + 1) = x := Nat.div_mul_cancel (dvd_of_mod hb)
            rw [this]; exact f
        · obtain ⟨a1, a2, a3, a4, a5, a6, a7⟩ := ih (base + 2 ^ K) lo hi x k hmid h
          refine ⟨by omega, a2, a3, a4, by omega, by omega, fun _ => ?_⟩
          by_cases e : k < K
          · exact a7 e
          · have hk : k = K := by omega
            subst hk
            have hx : x = base + 2 ^ k := by omega
            subst hx
            have hd : (base + 2 ^ k) / 2 ^ (k + 1) * 2 ^ (k + 1) = base := by
              rw [hc, Nat.mul_add_div (by omega), Nat.div_eq_of_lt (by omega), Nat.add_zero, Nat.mul_comm]
            rw [hd]; exact f

theorem cut_left : ∀ (K base lo hi : Nat), lo ≤ base → hi < base + 2 ^ K - 1 → (cut K base lo hi).length ≤ K := by
  intro K
  induction K with
  | zero => intro base lo hi h g; rw [cut_out (.inr (by simp at g; omega))]; simp
  | succ K ih =>
    intro base lo hi h g
    have hp := p2 K
    by_cases o : hi < base
    · rw [cut_out (.inr o)]; simp
    · rw [cut_half (by omega) (by omega), List.length_append]
      by_cases c : hi < base + 2 ^ K
      · rw [cut_out (K := K) (base := base + 2 ^ K) (.inr c)]
        by_cases d : base + 2 ^ K - 1 ≤ hi
        · rw [cut_full h d]; simp
        · have := ih base lo hi h (by omega); simp; omega
      · rw [cut_full h (by omega)]
        have := ih (base + 2 ^ K) lo hi (by omega) (by omega)
        simp; omega

theorem cut_right : ∀ (K base lo hi : Nat), base < lo → base + 2 ^ K - 1 ≤ hi → (cut K base lo hi).length ≤ K := by
  intro K
  induction K with
  | zero => intro base lo hi h g; rw [cut_out (.inl (by simp; omega))]; simp
  | succ K ih =>
    intro base lo hi h g
    have hp := p2 K
    by_cases o : base + 2 ^ (K + 1) - 1 < lo
    · rw [cut_out (.inl o)]; simp
    · rw [cut_half (by omega) (by omega), List.length_append]
      by_cases c : base + 2 ^ K - 1 < lo
      · rw [cut_out (K := K) (base := base) (.inl c)]
        by_cases d : lo ≤ base + 2 ^ K
        · rw [cut_full d (by omega)]; simp
        · have := ih (base + 2 ^ K) lo hi (by omega) (by omega); simp; omega
      · rw [cut_full (K := K) (base := base + 2 ^ K) (by omega) (by omega)]
        have := ih base lo hi h (by omega)
        simp; omega

theorem cut_len : ∀ (K base lo hi : Nat), (cut K base lo hi).length ≤ 2 * K - 2 ∨ (cut K base lo hi).length ≤ 1 := by
  intro K
  induction K with
  | zero => intro base lo hi; right; simp only [cut]; split <;> simp
  | succ K ih =>
    intro base lo hi
    have hp := p2 K
    by_cases o : base + 2 ^ (K + 1) - 1 < lo ∨ hi < base
    · rw [cut_out o]; right; simp
    · by_cases f : lo ≤ base ∧ base + 2 ^ (K + 1) - 1 ≤ hi
      · rw [cut_full f.1 f.2]; right; simp
      · rw [cut_half o f, List.length_append]
        by_cases c : hi < base + 2 ^ K
        · rw [cut_out (K := K) (base := base + 2 ^ K) (.inr c)]
          have := ih base lo hi
          simp only [List.length_nil]; omega
        · by_cases d : base + 2 ^ K - 1 < lo
          · rw [cut_out (K := K) (base := base) (.inl d)]
            have := ih (base + 2 ^ K) lo hi
            simp only [List.length_nil]; omega
          · by_cases l1 : lo ≤ base
            · rw [cut_full (K := K) (base := base) l1 (by omega)]
              have := cut_left K (base + 2 ^ K) lo hi (by omega) (by omega)
              simp only [List.length_cons, List.length_nil]; omega
            · have r1 := cut_right K base lo hi (by omega) (by omega)
              by_cases l2 : base + 2 ^ K + 2 ^ K - 1 ≤ hi
              · rw [cut_full (K := K) (base := base + 2 ^ K) (by omega) l2]
                simp only [List.length_cons, List.length_nil]; omega
              · have := cut_left K (base + 2 ^ K) lo hi (by omega) (by omega)
                omega

theorem cv_len (lo hi : Nat) : (cv lo hi).length ≤ 62 := by
  have := cut_len 32 0 lo hi
  unfold cv; omega

theorem cv_mem {lo hi x k : Nat} (h : (x, k) ∈ cv lo hi) : k ≤ 32 ∧ x % 2 ^ k = 0 ∧ lo ≤ x ∧ x + 2 ^ k - 1 ≤ hi ∧ x + 2 ^ k ≤ 4294967296 ∧
    (k < 32 → ¬ (lo ≤ x / 2 ^ (k + 1) * 2 ^ (k + 1) ∧ x / 2 ^ (k + 1) * 2 ^ (k + 1) + 2 ^ (k + 1) - 1 ≤ hi)) := by
  obtain ⟨a1, a2, a3, a4, _, a6, a7⟩ := cut_mem 32 0 lo hi x k (by simp) h
  exact ⟨a1, a2, a3, a4, by simpa using a6, a7⟩

/-- Going through a cover from the left: the block that stands at j, and the rest. -/
theorem cv_round {lo hi x j : Nat} {pre : List (Nat × Nat)} (hh : hi < 4294967296) (h1 : pre.length = j) (h2 : pre ++ cv x hi = cv lo hi) (hj : j < (cv lo hi).length) :
    ∃ k, (cv lo hi)[j]? = some (x, k) ∧ k ≤ 32 ∧ x % 2 ^ k = 0 ∧ x + 2 ^ k - 1 ≤ hi ∧ x + 2 ^ k ≤ 4294967296 ∧
      (k < 32 → ¬ (lo ≤ x / 2 ^ (k + 1) * 2 ^ (k + 1) ∧ x / 2 ^ (k + 1) * 2 ^ (k + 1) + 2 ^ (k + 1) - 1 ≤ hi)) ∧
      (pre ++ [(x, k)]).length = j + 1 ∧ (pre ++ [(x, k)]) ++ cv (x + 2 ^ k) hi = cv lo hi ∧ x + 2 ^ k ≤ hi + 1 := by
  have hx : x ≤ hi := by
    rcases Nat.lt_or_ge hi x with h | h
    · rw [cv_gt h, List.append_nil] at h2
      rw [← h2] at hj; omega
    · exact h
  obtain ⟨k, hk⟩ := wid_some hx
  have hs := cv_step (by omega) hk
  rw [hs] at h2
  have hm : (x, k) ∈ cv lo hi := by rw [← h2]; simp
  obtain ⟨a1, a2, a3, a4, a5, a6⟩ := cv_mem hm
  refine ⟨k, ?_, a1, a2, a4, a5, a6, by simp [h1], by simpa using h2, ?_⟩
  · rw [← h2, ← h1]; simp
  · have := Nat.two_pow_pos k; omega

/-- The k lowest bits. -/
def mask (k : Nat) : Nat := 2 ^ k - 1

theorem mask_lt {k : Nat} (h : k ≤ 32) : mask k < 4294967296 := by
  have : 2 ^ k ≤ 2 ^ 32 := p2_le h
  have := Nat.two_pow_pos k
  unfold mask; omega

theorem and_mask (x k : Nat) : x &&& mask k = x % 2 ^ k := Nat.and_two_pow_sub_one_eq_mod x k

theorem or_mask (x k : Nat) (h : x % 2 ^ k = 0) : x ||| mask k = x + 2 ^ k - 1 := by
  have hp := Nat.two_pow_pos k
  obtain ⟨c, rfl⟩ := dvd_of_mod h
  rw [← Nat.two_pow_add_eq_or_of_lt (by unfold mask; omega)]
  unfold mask; omega

end Go.Proofs.YtcboenmmkaochaaDoor.Ad.M

namespace Go.Proofs.YtcboenmmkaochaaDoor.Ad
open Go.ChangeShapes Go.WideShapes Go.ChangeAt Go.RowKit
set_option maxHeartbeats 400000

theorem pow_pred (n : Nat) (h : n ≤ 32) : 4294967295 / 2 ^ n = 2 ^ (32 - n) - 1 := by
  have : ∀ m, m < 33 → 4294967295 / 2 ^ m = 2 ^ (32 - m) - 1 := by decide +kernel
  exact this n (by omega)

theorem bits_any (n : Int) (k : Nat) (w : World) (h0 : n = 32 - (k : Int)) (h1 : k ≤ 32) :
    Calls Tryd.prog 63 #[.int .i64 n] w fun e w' => e = .returned (.int .u32 ((M.mask k : Nat) : Int)) ∧ w' = w := by
  have hp := pow_pred n.toNat (by omega)
  have HP : Hid (4294967295 / 2 ^ n.toNat = M.mask k) := by
    unfold M.mask; rw [show k = 32 - n.toNat from by omega]; exact hp
  have b0 : 0 ≤ n := by omega
  have b1 : n ≤ 32 := by omega
  clear hp h0 h1
  go_enter Tryd.func63, Tryd.ntmps63
  go_wp2
  go_ret
  refine ⟨ret_int ?_, rfl⟩
  rw [← HP.out]; simp

theorem and_u32 (x k : Nat) (hx : x < 4294967296) (hk : k ≤ 32) : bits .and .u32 (x : Int) ((M.mask k : Nat) : Int) = ((x % 2 ^ k : Nat) : Int) := by
  rw [u32_and_nat x (M.mask k) hx (M.mask_lt hk), M.and_mask]

theorem or_u32 (x k : Nat) (hx : x < 4294967296) (hk : k ≤ 32) (h : x % 2 ^ k = 0) : bits .or .u32 (x : Int) ((M.mask k : Nat) : Int) = ((x + 2 ^ k - 1 : Nat) : Int) := by
  rw [u32_or_nat x (M.mask k) hx (M.mask_lt hk), M.or_mask x k h]

def pw (k : Nat) : Nat := 2 ^ k
theorem pw_succ (k : Nat) : pw (k + 1) = 2 * pw k := (M.p2 k).1
theorem pw_pos (k : Nat) : 0 < pw k := Nat.two_pow_pos k
theorem pw_le {k : Nat} (h : k ≤ 32) : pw k ≤ 4294967296 := M.p2_le (a := k) (b := 32) h

/-- Why a prefix is not valid; 0: it is. -/
def err (p : Nat × Int) : Int := if p.2 < 0 ∨ 32 < p.2 then 11 else if p.1 % 2 ^ (32 - p.2.toNat) = 0 then 0 else 12

/-- The prefixes that are valid: the block of 2^k addresses at x. -/
theorem err_ok {p : Nat × Int} (h : err p = 0) : ∃ k : Nat, k ≤ 32 ∧ p.2 = 32 - (k : Int) ∧ p.1 % 2 ^ k = 0 := by
  unfold err at h
  split at h
  · simp at h
  · rename_i h1
    split at h
    · exact ⟨32 - p.2.toNat, by omega, by omega, by assumption⟩
    · simp at h

theorem check_any (x : Nat) (n : Int) (w : World) (hx : x < 4294967296) :
    Calls Tryd.prog 62 #[.agg #[.int .u32 x, .int .i64 n]] w fun e w' => e = .returned (.int .i64 (err (x, n))) ∧ Below w.heap.size w w' := by
  by_cases h1 : n < 0
  · have HE : Hid (err (x, n) = 11) := by unfold Hid err; rw [if_pos (.inl h1)]
    go_enter Tryd.func62, Tryd.ntmps62
    go_wp2
    go_ret
    exact ⟨ret_int HE.out.symm, (Below.refl _ _).alloc (Nat.le_refl _) _⟩
  · by_cases h2 : 32 < n
    · have HE : Hid (err (x, n) = 11) := by unfold Hid err; rw [if_pos (.inr h2)]
      go_enter Tryd.func62, Tryd.ntmps62
      go_wp2
      go_ret
      exact ⟨ret_int HE.out.symm, (Below.refl _ _).alloc (Nat.le_refl _) _⟩
    · obtain ⟨k, hk, hn⟩ : ∃ k : Nat, k ≤ 32 ∧ n = 32 - (k : Int) := ⟨32 - n.toNat, by omega, by omega⟩
      have hA := and_u32 x k hx hk
      have hkn : 32 - n.toNat = k := by omega
      by_cases h3 : x % 2 ^ k = 0
      · have HE : Hid (err (x, n) = 0) := by unfold Hid err; rw [if_neg (by simp; omega), hkn, if_pos h3]
        have hq : (bits .and .u32 (x : Int) ((M.mask k : Nat) : Int) != 0) = false := by rw [hA, h3]; rfl
        have HN : Hid (n = 32 - (k : Int)) := hn
        clear hA h3 hkn hn
        go_enter Tryd.func62, Tryd.ntmps62
        go_wp2
        go_quiet ((go_at_call 63; exact Calls.quiet_of_same (bits_any _ k _ HN.out hk)))
        go_wp2
        go_ret
        exact ⟨ret_int HE.out.symm, below_drewN ((Below.refl _ _).alloc (Nat.le_refl _) _) _⟩
      · have HE : Hid (err (x, n) = 12) := by unfold Hid err; rw [if_neg (by simp; omega), hkn, if_neg h3]
        have hq : (bits .and .u32 (x : Int) ((M.mask k : Nat) : Int) != 0) = true := by
          rw [hA, bne_iff_ne]; intro e; exact h3 (by exact_mod_cast e)
        have HN : Hid (n = 32 - (k : Int)) := hn
        clear hA h3 hkn hn
        go_enter Tryd.func62, Tryd.ntmps62
        go_wp2
        go_quiet ((go_at_call 63; exact Calls.quiet_of_same (bits_any _ k _ HN.out hk)))
        go_wp2
        go_ret
        exact ⟨ret_int HE.out.symm, below_drewN ((Below.refl _ _).alloc (Nat.le_refl _) _) _⟩

end Go.Proofs.YtcboenmmkaochaaDoor.Ad

namespace Go.Proofs.YtcboenmmkaochaaDoor.Ad
open Go.ChangeShapes Go.WideShapes Go.ChangeAt Go.RowKit
set_option maxHeartbeats 400000

theorem valid_any (x : Nat) (n : Int) (w : World) (hx : x < 4294967296) :
    Calls Tryd.prog 56 #[.agg #[.int .u32 x, .int .i64 n]] w fun e w' => e = .returned (.bool (err (x, n) == 0)) ∧ Below w.heap.size w w' := by
  go_enter Tryd.func56, Tryd.ntmps56
  go_wp2_with fail
  refine (check_any x n _ hx).mono ?_
  rintro e w1 ⟨rfl, hb1⟩
  obtain ⟨ee, hee⟩ : ∃ ee, ee = err (x, n) := ⟨_, rfl⟩
  rw [← hee]
  have HEE := hid hee
  clear hee
  have hb01 : Below w.heap.size w w1 := ((Below.refl _ _).alloc (Nat.le_refl _) _).trans (hb1.mono (by simp))
  go_wp2_with fail
  go_ret
  exact ⟨ret_bool (by rw [HEE.out]), hb01⟩

theorem lastOf_any (x k : Nat) (n : Int) (w : World) (hn : n = 32 - (k : Int)) (hx : x < 4294967296) (hk : k ≤ 32) (hm : x % 2 ^ k = 0) :
    Calls Tryd.prog 57 #[.agg #[.int .u32 x, .int .i64 n]] w fun e w' => e = .returned (.int .u32 ((x + pw k - 1 : Nat) : Int)) ∧ Below w.heap.size w w' := by
  subst hn
  have hO := or_u32 x k hx hk hm
  have HO : Hid (bits .or .u32 (x : Int) ((M.mask k : Nat) : Int) = ((x + pw k - 1 : Nat) : Int)) := hO
  clear hO
  go_enter Tryd.func57, Tryd.ntmps57
  go_wp2
  go_quiet ((go_at_call 63; exact Calls.quiet_of_same (bits_any _ k _ (by omega) hk)))
  go_wp2
  go_ret
  exact ⟨ret_int HO.out, below_drewN ((Below.refl _ _).alloc (Nat.le_refl _) _) _⟩

theorem top_of (x k : Nat) (hx : x < 4294967296) (hk : k ≤ 32) (h : x % 2 ^ k = 0) : x + pw k ≤ 4294967296 :=
  M.step_le (d := 2 ^ k) h (show 4294967296 % 2 ^ k = 0 from M.mod_pow (k := 32) hk) hx

theorem ret_int3 {k l m : IntKind} {a b c d e f : Int} (h : a = b) (g : c = d) (i : e = f) : Ending.returned (.tuple #[.int k a, .int l c, .int m e]) = .returned (.tuple #[.int k b, .int l d, .int m f]) := by rw [h, g, i]

/-- The last address of a valid prefix. -/
def lst (x : Nat) (n : Int) : Nat := x + pw (32 - n.toNat) - 1

/-- Span's answer. -/
def ansS (x : Nat) (n : Int) : Value := if err (x, n) = 0 then .tuple #[.int .u32 (x : Int), .int .u32 ((lst x n : Nat) : Int), .int .i64 0] else .tuple #[.int .u32 0, .int .u32 0, .int .i64 (err (x, n))]

end Go.Proofs.YtcboenmmkaochaaDoor.Ad

namespace Go.Proofs.YtcboenmmkaochaaDoor.Ad
open Go.ChangeShapes Go.WideShapes Go.ChangeAt Go.RowKit
set_option maxHeartbeats 400000

/-- Whether a prefix has an address. -/
def has (x : Nat) (n : Int) (a : Nat) : Bool := (err (x, n) == 0) && decide (x ≤ a) && decide (a ≤ lst x n)

theorem contains_any (x : Nat) (n : Int) (a : Nat) (w : World) (hx : x < 4294967296) :
    Calls Tryd.prog 47 #[.agg #[.int .u32 x, .int .i64 n], .int .u32 a] w fun e w' => e = .returned (.bool (has x n a)) ∧ Below w.heap.size w w' := by
  obtain ⟨wa, hwa⟩ : ∃ wa, wa = w.alloc (.cells #[.int .u32 x, .int .i64 n] 81) := ⟨_, rfl⟩
  have hb0 : Below w.heap.size w wa := by rw [hwa]; exact (Below.refl _ _).alloc (Nat.le_refl _) _
  have r1 : wa.heap[w.heap.size]? = some (.cells #[.int .u32 x, .int .i64 n] 81) := by rw [hwa]; exact heap_alloc_new w _
  obtain ⟨q0, q1⟩ := Beh.two r1
  have HWA := hid hwa
  clear hwa r1
  have V : ∀ b, (err (x, n) == 0) = b → ∀ u : Beh wa, Calls Tryd.prog 56 #[.agg #[.int .u32 x, .int .i64 n]] u.wd fun e w' => e = .returned (.bool b) ∧ ∃ u' : Beh wa, w' = u'.wd :=
    fun b hb u => Calls.beh (by rw [← hb]; exact valid_any x n _ hx)
  cases he : (err (x, n) == 0) with
  | false =>
    have HH : Hid (has x n a = false) := by unfold Hid has; rw [he]; rfl
    have G1 := hid (V false he)
    clear V he
    go_enter Tryd.func47, Tryd.ntmps47
    go_wp2_with fail
    rw [← HWA.out]
    refine (G1.out ⟨wa, Below.refl _ _⟩).mono ?_
    rintro _ _ ⟨rfl, u, rfl⟩
    have hbu := hb0.trans (u.ok.mono hb0.size)
    go_wp2_with fail
    go_ret
    exact ⟨ret_bool HH.out.symm, hbu⟩
  | true =>
    have G1 := hid (V true he)
    by_cases hxa : x ≤ a
    · have F2 : ∀ u : Beh wa, Calls Tryd.prog 57 #[.agg #[.int .u32 x, .int .i64 n]] u.wd fun e w' => e = .returned (.int .u32 ((lst x n : Nat) : Int)) ∧ ∃ u' : Beh wa, w' = u'.wd := by
        obtain ⟨k, hk, hkn, hm⟩ := err_ok (by simpa using he)
        simp only at hkn hm
        have HL : lst x n = x + pw k - 1 := by unfold lst; rw [show 32 - n.toNat = k from by omega]
        exact fun u => Calls.beh (by rw [HL]; exact lastOf_any x k n _ hkn hx hk hm)
      have HH : Hid (has x n a = decide (a ≤ lst x n)) := by unfold Hid has; rw [he]; simp [hxa]
      generalize lst x n = ll at F2 HH
      have G2 := hid F2
      clear V he F2
      go_enter Tryd.func47, Tryd.ntmps47
      go_wp2_with fail
      rw [← HWA.out]
      refine (G1.out ⟨wa, Below.refl _ _⟩).mono ?_
      rintro _ _ ⟨rfl, u1, rfl⟩
      go_wp2_with fail
      refine (G2.out u1).mono ?_
      rintro _ _ ⟨rfl, u, rfl⟩
      have hbu := hb0.trans (u.ok.mono hb0.size)
      go_wp2_with fail
      go_ret
      exact ⟨ret_bool HH.out.symm, hbu⟩
    · have HH : Hid (has x n a = false) := by unfold Hid has; simp [hxa]
      clear V he
      go_enter Tryd.func47, Tryd.ntmps47
      go_wp2_with fail
      rw [← HWA.out]
      refine (G1.out ⟨wa, Below.refl _ _⟩).mono ?_
      rintro _ _ ⟨rfl, u, rfl⟩
      have hbu := hb0.trans (u.ok.mono hb0.size)
      go_wp2_with fail
      go_ret
      exact ⟨ret_bool HH.out.symm, hbu⟩

/-- What an address is for. -/
def cls (a : Nat) : Int := if a / 16777216 = 0 then 1 else if a / 16777216 = 127 then 2 else if 240 ≤ a / 16777216 then 4 else if 224 ≤ a / 16777216 then 3 else 0

theorem ret_cls {k : IntKind} {a b : Int} (h : a = b) : Ending.returned (.int k b) = .returned (.int k a) := by rw [h]

/-- The table of classes. -/
def rowsC : List Value := [.int .u32 0, .int .i64 8, .int .i64 1, .int .u32 2130706432, .int .i64 8, .int .i64 2, .int .u32 3758096384, .int .i64 4, .int .i64 3, .int .u32 4026531840, .int .i64 4, .int .i64 4]

/-- It lies in the world. -/
def TabC (w : World) : Prop := (∀ j (h : j < 12), w.cell? ⟨1, j, none⟩ = some rowsC[j]) ∧ 1 < w.heap.size

theorem TabC.below {w w' : World} (h : TabC w) (hb : Below w.heap.size w w') : TabC w' :=
  ⟨fun j hj => (hb.cell (p := ⟨1, j, none⟩) h.2).trans (h.1 j hj), Nat.lt_of_lt_of_le h.2 hb.size⟩

theorem has_0 (a : Nat) : has 0 8 a = decide (a / 16777216 = 0) := by
  unfold has lst
  rw [show err (0, 8) = 0 from by decide +kernel, show pw (32 - (8 : Int).toNat) = 16777216 from rfl]
  simp; omega
theorem has_1 (a : Nat) : has 2130706432 8 a = decide (a / 16777216 = 127) := by
  unfold has lst
  rw [show err (2130706432, 8) = 0 from by decide +kernel, show pw (32 - (8 : Int).toNat) = 16777216 from rfl]
  simp only [BEq.rfl, Bool.true_and, ← Bool.decide_and]
  congr 1; apply propext; omega
theorem has_2 (a : Nat) : has 3758096384 4 a = decide (224 ≤ a / 16777216 ∧ a / 16777216 < 240) := by
  unfold has lst
  rw [show err (3758096384, 4) = 0 from by decide +kernel, show pw (32 - (4 : Int).toNat) = 268435456 from rfl]
  simp only [BEq.rfl, Bool.true_and, ← Bool.decide_and]
  congr 1; apply propext; omega
theorem has_3 (a : Nat) (ha : a < 4294967296) : has 4026531840 4 a = decide (240 ≤ a / 16777216) := by
  unfold has lst
  rw [show err (4026531840, 4) = 0 from by decide +kernel, show pw (32 - (4 : Int).toNat) = 268435456 from rfl]
  simp only [BEq.rfl, Bool.true_and, ← Bool.decide_and]
  congr 1; apply propext; omega

theorem idx_0 (w : World) :
    (Instr.index 78 (.agg #[.int .u32 0, .int .i64 8, .int .i64 1, .int .u32 2130706432, .int .i64 8, .int .i64 2, .int .u32 3758096384, .int .i64 4, .int .i64 3, .int .u32 4026531840, .int .i64 4, .int .i64 4]) (.int .i64 0)).run Tryd.prog w = .ok (.agg #[.int .u32 0, .int .i64 8, .int .i64 1]) w := by
  have u84 : Tryd.prog.underlying 78 = some (.array 4 77) := by kernel_rfl
  simp [Instr.index, run_underlying u84, asIntOf, go_sem]

theorem idx_1 (w : World) :
    (Instr.index 78 (.agg #[.int .u32 0, .int .i64 8, .int .i64 1, .int .u32 2130706432, .int .i64 8, .int .i64 2, .int .u32 3758096384, .int .i64 4, .int .i64 3, .int .u32 4026531840, .int .i64 4, .int .i64 4]) (.int .i64 1)).run Tryd.prog w = .ok (.agg #[.int .u32 2130706432, .int .i64 8, .int .i64 2]) w := by
  have u84 : Tryd.prog.underlying 78 = some (.array 4 77) := by kernel_rfl
  simp [Instr.index, run_underlying u84, asIntOf, go_sem]

theorem idx_2 (w : World) :
    (Instr.index 78 (.agg #[.int .u32 0, .int .i64 8, .int .i64 1, .int .u32 2130706432, .int .i64 8, .int .i64 2, .int .u32 3758096384, .int .i64 4, .int .i64 3, .int .u32 4026531840, .int .i64 4, .int .i64 4]) (.int .i64 2)).run Tryd.prog w = .ok (.agg #[.int .u32 3758096384, .int .i64 4, .int .i64 3]) w := by
  have u84 : Tryd.prog.underlying 78 = some (.array 4 77) := by kernel_rfl
  simp [Instr.index, run_underlying u84, asIntOf, go_sem]

theorem idx_3 (w : World) :
    (Instr.index 78 (.agg #[.int .u32 0, .int .i64 8, .int .i64 1, .int .u32 2130706432, .int .i64 8, .int .i64 2, .int .u32 3758096384, .int .i64 4, .int .i64 3, .int .u32 4026531840, .int .i64 4, .int .i64 4]) (.int .i64 3)).run Tryd.prog w = .ok (.agg #[.int .u32 4026531840, .int .i64 4, .int .i64 4]) w := by
  have u84 : Tryd.prog.underlying 78 = some (.array 4 77) := by kernel_rfl
  simp [Instr.index, run_underlying u84, asIntOf, go_sem]

theorem contains_at (X : Int) (x : Nat) (n : Int) (a : Nat) (b : Bool) (w : World) (hX : X = (x : Int)) (hx : x < 4294967296) (hb : has x n a = b) :
    Calls Tryd.prog 47 #[.agg #[.int .u32 X, .int .i64 n], .int .u32 a] w fun e w' => e = .returned (.bool b) ∧ Below w.heap.size w w' := by
  subst hX; rw [← hb]; exact contains_any x n a w hx

set_option maxRecDepth 100000 in
theorem class_any (a : Nat) (w : World) (ha : a < 4294967296) (ht : TabC w) :
    Calls Tryd.prog 34 #[.int .u32 a] w fun e w' => e = .returned (.int .i64 (cls a)) ∧ Below w.heap.size w w' := by
  have HTB := hid ht
  have t0 : w.cell? ⟨1, 0, none⟩ = some (.int .u32 0) := ht.1 0 (by omega)
  have t1 : w.cell? ⟨1, 1, none⟩ = some (.int .i64 8) := ht.1 1 (by omega)
  have t2 : w.cell? ⟨1, 2, none⟩ = some (.int .i64 1) := ht.1 2 (by omega)
  have t3 : w.cell? ⟨1, 3, none⟩ = some (.int .u32 2130706432) := ht.1 3 (by omega)
  have t4 : w.cell? ⟨1, 4, none⟩ = some (.int .i64 8) := ht.1 4 (by omega)
  have t5 : w.cell? ⟨1, 5, none⟩ = some (.int .i64 2) := ht.1 5 (by omega)
  have t6 : w.cell? ⟨1, 6, none⟩ = some (.int .u32 3758096384) := ht.1 6 (by omega)
  have t7 : w.cell? ⟨1, 7, none⟩ = some (.int .i64 4) := ht.1 7 (by omega)
  have t8 : w.cell? ⟨1, 8, none⟩ = some (.int .i64 3) := ht.1 8 (by omega)
  have t9 : w.cell? ⟨1, 9, none⟩ = some (.int .u32 4026531840) := ht.1 9 (by omega)
  have t10 : w.cell? ⟨1, 10, none⟩ = some (.int .i64 4) := ht.1 10 (by omega)
  have t11 : w.cell? ⟨1, 11, none⟩ = some (.int .i64 4) := ht.1 11 (by omega)
  clear ht
  have i0 := idx_0
  have i1 := idx_1
  have i2 := idx_2
  have i3 := idx_3
  go_enter Tryd.func34, Tryd.ntmps34
  go_wp2_with fail
  refine wp_loop_rounds 5 ?_
  rw [rounds_succ]
  have hbw0 : Below w.heap.size w w := Below.refl _ _
  go_wp2_with fail
  by_cases h0 : a / 16777216 = 0
  · refine (contains_at 0 0 8 a true _ (by rfl) (by omega) ((has_0 a).trans (decide_eq_true h0))).mono ?_
    rintro e w1 ⟨rfl, hb1⟩
    have hbw1 : Below w.heap.size w w1 := (hbw0.alloc hbw0.size _).trans (hb1.mono (by simp))
    have c2 : w1.cell? ⟨w.heap.size, 2, none⟩ = some (.int .i64 1) := by
      have r : w1.heap[w.heap.size]? = some (.cells #[.int .u32 0, .int .i64 8, .int .i64 1] 77) := by
        rw [hb1.block _ (by simp)]; exact heap_alloc_new w _
      rw [cell_of_row w1 _ 2 _ _ _ r]; rfl
    have HC : Hid (cls a = 1) := by unfold Hid cls; grind
    clear h0
    go_wp2_with fail
    go_ret
    exact ⟨ret_cls HC.out, hbw1⟩
  · refine (contains_at 0 0 8 a false _ (by rfl) (by omega) ((has_0 a).trans (decide_eq_false h0))).mono ?_
    rintro e w1 ⟨rfl, hb1⟩
    have hbw1 : Below w.heap.size w w1 := (hbw0.alloc hbw0.size _).trans (hb1.mono (by simp))
    go_wp2_with fail
    rw [rounds_succ]
    go_wp2_with fail
    by_cases h1 : a / 16777216 = 127
    · refine (contains_at 2130706432 2130706432 8 a true _ (by rfl) (by omega) ((has_1 a).trans (decide_eq_true h1))).mono ?_
      rintro e w2 ⟨rfl, hb2⟩
      have hbw2 : Below w.heap.size w w2 := (hbw1.alloc hbw1.size _).trans (hb2.mono (by have := hbw1.size; simp; omega))
      have c2 : w2.cell? ⟨w1.heap.size, 2, none⟩ = some (.int .i64 2) := by
        have r : w2.heap[w1.heap.size]? = some (.cells #[.int .u32 2130706432, .int .i64 8, .int .i64 2] 77) := by
          rw [hb2.block _ (by simp)]; exact heap_alloc_new w1 _
        rw [cell_of_row w2 _ 2 _ _ _ r]; rfl
      have HC : Hid (cls a = 2) := by unfold Hid cls; grind
      clear h0 h1
      go_wp2_with fail
      go_ret
      exact ⟨ret_cls HC.out, hbw2⟩
    · refine (contains_at 2130706432 2130706432 8 a false _ (by rfl) (by omega) ((has_1 a).trans (decide_eq_false h1))).mono ?_
      rintro e w2 ⟨rfl, hb2⟩
      have hbw2 : Below w.heap.size w w2 := (hbw1.alloc hbw1.size _).trans (hb2.mono (by have := hbw1.size; simp; omega))
      go_wp2_with fail
      rw [rounds_succ]
      go_wp2_with fail
      by_cases h2 : 224 ≤ a / 16777216 ∧ a / 16777216 < 240
      · refine (contains_at 3758096384 3758096384 4 a true _ (by rfl) (by omega) ((has_2 a).trans (decide_eq_true h2))).mono ?_
        rintro e w3 ⟨rfl, hb3⟩
        have hbw3 : Below w.heap.size w w3 := (hbw2.alloc hbw2.size _).trans (hb3.mono (by have := hbw2.size; simp; omega))
        have c2 : w3.cell? ⟨w2.heap.size, 2, none⟩ = some (.int .i64 3) := by
          have r : w3.heap[w2.heap.size]? = some (.cells #[.int .u32 3758096384, .int .i64 4, .int .i64 3] 77) := by
            rw [hb3.block _ (by simp)]; exact heap_alloc_new w2 _
          rw [cell_of_row w3 _ 2 _ _ _ r]; rfl
        have HC : Hid (cls a = 3) := by unfold Hid cls; grind
        clear h0 h1 h2
        go_wp2_with fail
        go_ret
        exact ⟨ret_cls HC.out, hbw3⟩
      · refine (contains_at 3758096384 3758096384 4 a false _ (by rfl) (by omega) ((has_2 a).trans (decide_eq_false h2))).mono ?_
        rintro e w3 ⟨rfl, hb3⟩
        have hbw3 : Below w.heap.size w w3 := (hbw2.alloc hbw2.size _).trans (hb3.mono (by have := hbw2.size; simp; omega))
        go_wp2_with fail
        rw [rounds_succ]
        go_wp2_with fail
        by_cases h3 : 240 ≤ a / 16777216
        · refine (contains_at 4026531840 4026531840 4 a true _ (by rfl) (by omega) ((has_3 a ha).trans (decide_eq_true h3))).mono ?_
          rintro e w4 ⟨rfl, hb4⟩
          have hbw4 : Below w.heap.size w w4 := (hbw3.alloc hbw3.size _).trans (hb4.mono (by have := hbw3.size; simp; omega))
          have c2 : w4.cell? ⟨w3.heap.size, 2, none⟩ = some (.int .i64 4) := by
            have r : w4.heap[w3.heap.size]? = some (.cells #[.int .u32 4026531840, .int .i64 4, .int .i64 4] 77) := by
              rw [hb4.block _ (by simp)]; exact heap_alloc_new w3 _
            rw [cell_of_row w4 _ 2 _ _ _ r]; rfl
          have HC : Hid (cls a = 4) := by unfold Hid cls; grind
          clear h0 h1 h2 h3
          go_wp2_with fail
          go_ret
          exact ⟨ret_cls HC.out, hbw4⟩
        · refine (contains_at 4026531840 4026531840 4 a false _ (by rfl) (by omega) ((has_3 a ha).trans (decide_eq_false h3))).mono ?_
          rintro e w4 ⟨rfl, hb4⟩
          have hbw4 : Below w.heap.size w w4 := (hbw3.alloc hbw3.size _).trans (hb4.mono (by have := hbw3.size; simp; omega))
          go_wp2_with fail
          rw [rounds_succ]
          have HC : Hid (cls a = 0) := by unfold Hid cls; grind
          clear h0 h1 h2 h3
          go_wp2_with fail
          go_ret
          exact ⟨ret_cls HC.out, hbw4⟩
end Go.Proofs.YtcboenmmkaochaaDoor.Ad

namespace Go.Proofs.YtcboenmmkaochaaDoor.N
open Go.ChangeShapes Go.WideShapes Go.ChangeAt Go.RowKit
set_option maxRecDepth 100000

open Ad (rowsC TabC)

theorem own : ownKnob Tryd.prog.godebug = none := by kernel_rfl
theorem laidOut : laidOutB Tryd.prog = true := by kernel_rfl
theorem gK : Tryd.prog.globalNamed "weft/icmp.kinds" = some 0 := by kernel_rfl
theorem gC : Tryd.prog.globalNamed "weft/addr.classRows" = some 1 := by kernel_rfl
theorem gKType : (Tryd.prog.globals[0]?).map (·.type) = some 75 := by kernel_rfl
theorem gCType : (Tryd.prog.globals[1]?).map (·.type) = some 78 := by kernel_rfl
theorem uC : Tryd.prog.underlying 78 = some (.array 4 77) := by kernel_rfl
theorem uK : Tryd.prog.underlying 75 = some (.array 13 60) := by kernel_rfl
theorem cellsC : Tryd.prog.cellsOf 78 = 12 := by kernel_rfl
theorem cellsR : Tryd.prog.cellsOf 77 = 3 := by kernel_rfl
theorem cellsK : Tryd.prog.cellsOf 75 = 26 := by kernel_rfl
theorem cellsQ : Tryd.prog.cellsOf 60 = 2 := by kernel_rfl
theorem undR : ∃ f0 f1 f2, Tryd.prog.underlying 77 = some (.struct #[f0, f1, f2]) ∧ f0.type = 24 ∧ f0.offset = 0 ∧ f1.type = 3 ∧ f1.offset = 1 ∧ f2.type = 3 ∧ f2.offset = 2 := ⟨_, _, _, Tryd.underlying77, rfl, rfl, rfl, rfl, rfl, rfl⟩
theorem undQ : ∃ f0 f1, Tryd.prog.underlying 60 = some (.struct #[f0, f1]) ∧ f0.type = 4 ∧ f0.offset = 0 ∧ f1.type = 5 ∧ f1.offset = 1 := ⟨_, _, Tryd.underlying60, rfl, rfl, rfl, rfl⟩

section
variable {H : Type} {enc : TypeId × Value → H} {W : World} {sp : Nat → Bool} {held : Bool}

theorem row3 {fuel : Nat} {cs : List Value} {a b c : Int} {p : List MemPlace} (h : DataW.trod enc Tryd.prog W 0 sp held fuel 77 cs = some (.agg [.lit (.int .u32 a), .lit (.int .i64 b), .lit (.int .i64 c)], p)) :
    cs = [.int .u32 a, .int .i64 b, .int .i64 c] := by
  obtain ⟨f0, f1, f2, hu, t0, o0, t1, o1, t2, o2⟩ := undR
  obtain ⟨y0, y1, y2, n, hx, hl, g0, g1, g2⟩ := Go.Deep.trod_struct3 hu h
  rw [t0, o0, cell1_ad] at g0
  rw [t1, o1, cell1_3] at g1
  rw [t2, o2, cell1_3] at g2
  rw [cellsR] at hl
  obtain ⟨z0, e0, rfl, _⟩ := DataW.trod_int und_ad g0
  obtain ⟨z1, e1, rfl, _⟩ := DataW.trod_int u3 g1
  obtain ⟨z2, e2, rfl, _⟩ := DataW.trod_int u3 g2
  simp at hx
  obtain ⟨⟨rfl, rfl, rfl⟩, _⟩ := hx
  match cs, hl with
  | [c0, c1, c2], _ => simp at e0 e1 e2; rw [e0, e1, e2]

theorem row2 {fuel : Nat} {cs : List Value} {a : Bool} {b : Int} {p : List MemPlace} (h : DataW.trod enc Tryd.prog W 0 sp held fuel 60 cs = some (.agg [.lit (.bool a), .lit (.int .u8 b)], p)) :
    cs = [.bool a, .int .u8 b] := by
  obtain ⟨f0, f1, hu, t0, o0, t1, o1⟩ := undQ
  obtain ⟨y0, y1, n, hx, hl, g0, g1⟩ := trod_struct2 hu h
  rw [t0, o0, cell1_4] at g0
  rw [t1, o1, cell1_5] at g1
  rw [cellsQ] at hl
  obtain ⟨z0, e0, rfl⟩ := DataW.trod_bool u4 g0
  obtain ⟨z1, e1, rfl, _⟩ := DataW.trod_int u5 g1
  simp at hx
  obtain ⟨⟨rfl, rfl⟩, _⟩ := hx
  match cs, hl with
  | [c0, c1], _ => simp at e0 e1; rw [e0, e1]
end

theorem tabC {W : World} (h : laidMet Tryd.prog [("weft/addr.classRows", Rows.laid_weft_addr_classRows), ("weft/icmp.kinds", Rows.laid_weft_icmp_kinds)] W) : TabC W := by
  obtain ⟨ps, ⟨g, t, cs, fuel, p, q, hg, ht, hvar, hd, _, _⟩, _⟩ := h
  obtain rfl := Option.some.inj (gC.symm.trans hg)
  obtain rfl := Option.some.inj (gCType.symm.trans ht)
  obtain ⟨xs, m, _, hx, hl, hxl, hall⟩ := DataW.trod_array uC hd
  rw [cellsC] at hl
  rw [cellsR] at hall
  unfold Rows.laid_weft_addr_classRows at hx
  match xs, hxl with
  | [y0, y1, y2, y3], _ =>
    simp at hx
    obtain ⟨⟨e0, e1, e2, e3⟩, _⟩ := hx
    obtain ⟨d0, q0⟩ := y0
    obtain ⟨d1, q1⟩ := y1
    obtain ⟨d2, q2⟩ := y2
    obtain ⟨d3, q3⟩ := y3
    simp only at e0 e1 e2 e3
    subst e0 e1 e2 e3
    have r0 := row3 (hall 0 (by omega))
    have r1 := row3 (hall 1 (by omega))
    have r2 := row3 (hall 2 (by omega))
    have r3 := row3 (hall 3 (by omega))
    have hcs : cs.toList = rowsC := by
      match hc : cs.toList, hl with
      | [c0, c1, c2, c3, c4, c5, c6, c7, c8, c9, c10, c11], _ =>
        rw [hc] at r0 r1 r2 r3
        simp at r0 r1 r2 r3
        obtain ⟨rfl, rfl, rfl⟩ := r0
        obtain ⟨rfl, rfl, rfl⟩ := r1
        obtain ⟨rfl, rfl, rfl⟩ := r2
        obtain ⟨rfl, rfl, rfl⟩ := r3
        rfl
    have hcell : ∀ j (hj : j < 12), W.cell? ⟨1, j, none⟩ = some rowsC[j] := by
      intro j hj
      have h3 := World.var?_cell gC hvar j
      rw [h3, ← Array.getElem?_toList, hcs]
      exact List.getElem?_eq_getElem hj
    exact ⟨hcell, World.block_lt_of_cell? W _ (hcell 0 (by omega))⟩

theorem tabK {W : World} (h : laidMet Tryd.prog [("weft/addr.classRows", Rows.laid_weft_addr_classRows), ("weft/icmp.kinds", Rows.laid_weft_icmp_kinds)] W) : TabK W := by
  have h2 : laidMet Tryd.prog [("weft/icmp.kinds", Rows.laid_weft_icmp_kinds)] W := h.tail
  obtain ⟨ps, ⟨g, t, cs, fuel, p, q, hg, ht, hvar, hd, _, _⟩, _⟩ := h2
  obtain rfl := Option.some.inj (gK.symm.trans hg)
  obtain rfl := Option.some.inj (gKType.symm.trans ht)
  obtain ⟨xs, m, _, hx, hl, hxl, hall⟩ := DataW.trod_array uK hd
  rw [cellsK] at hl
  rw [cellsQ] at hall
  unfold Rows.laid_weft_icmp_kinds at hx
  match xs, hxl with
  | [(d0, q0), (d1, q1), (d2, q2), (d3, q3), (d4, q4), (d5, q5), (d6, q6), (d7, q7), (d8, q8), (d9, q9), (d10, q10), (d11, q11), (d12, q12)], _ =>
    simp at hx
    obtain ⟨⟨rfl, rfl, rfl, rfl, rfl, rfl, rfl, rfl, rfl, rfl, rfl, rfl, rfl⟩, _⟩ := hx
    have r0 := row2 (hall 0 (by omega))
    have r1 := row2 (hall 1 (by omega))
    have r2 := row2 (hall 2 (by omega))
    have r3 := row2 (hall 3 (by omega))
    have r4 := row2 (hall 4 (by omega))
    have r5 := row2 (hall 5 (by omega))
    have r6 := row2 (hall 6 (by omega))
    have r7 := row2 (hall 7 (by omega))
    have r8 := row2 (hall 8 (by omega))
    have r9 := row2 (hall 9 (by omega))
    have r10 := row2 (hall 10 (by omega))
    have r11 := row2 (hall 11 (by omega))
    have r12 := row2 (hall 12 (by omega))
    have hcs : cs.toList = rowsK := by
      match hc : cs.toList, hl with
      | [c0, c1, c2, c3, c4, c5, c6, c7, c8, c9, c10, c11, c12, c13, c14, c15, c16, c17, c18, c19, c20, c21, c22, c23, c24, c25], _ =>
        rw [hc] at r0 r1 r2 r3 r4 r5 r6 r7 r8 r9 r10 r11 r12
        simp at r0 r1 r2 r3 r4 r5 r6 r7 r8 r9 r10 r11 r12
        obtain ⟨rfl, rfl⟩ := r0
        obtain ⟨rfl, rfl⟩ := r1
        obtain ⟨rfl, rfl⟩ := r2
        obtain ⟨rfl, rfl⟩ := r3
        obtain ⟨rfl, rfl⟩ := r4
        obtain ⟨rfl, rfl⟩ := r5
        obtain ⟨rfl, rfl⟩ := r6
        obtain ⟨rfl, rfl⟩ := r7
        obtain ⟨rfl, rfl⟩ := r8
        obtain ⟨rfl, rfl⟩ := r9
        obtain ⟨rfl, rfl⟩ := r10
        obtain ⟨rfl, rfl⟩ := r11
        obtain ⟨rfl, rfl⟩ := r12
        rfl
    have hcell : ∀ j (hj : j < 26), W.cell? ⟨0, j, none⟩ = some rowsK[j] := by
      intro j hj
      have h3 := World.var?_cell gK hvar j
      rw [h3, ← Array.getElem?_toList, hcs]
      exact List.getElem?_eq_getElem hj
    exact ⟨hcell, World.block_lt_of_cell? W _ (hcell 0 (by omega))⟩

/-- The cells of a table of rows of numbers and bools. -/
def aggCells : DataW Unit → Array Value
  | .agg ds => (ds.flatMap fun d => match d with
    | .agg es => es.map fun e => match e with | .lit (.int k z) => Value.int k z | .lit (.bool b) => Value.bool b | _ => .bool false
    | _ => [.bool false]).toArray
  | _ => #[]

def put (d : DataW Unit) : Obj → Obj
  | .cells _ t frozen => .cells (aggCells d) t frozen
  | o => o

/-- A world for the witness: the settled one, the tables holding what their initialisers lay. -/
noncomputable def laidWorld (os : Os) : World :=
  { World.holding Tryd.prog os ⟨#[], #[], []⟩ with heap := ((World.holding Tryd.prog os ⟨#[], #[], []⟩).heap.modify 1 (put Rows.laid_weft_addr_classRows)).modify 0 (put Rows.laid_weft_icmp_kinds) }
end Go.Proofs.YtcboenmmkaochaaDoor.N
