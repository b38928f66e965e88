import Derived.Test.YtkkfioebpppffaaGreatDoorYFwA
import Derived.Shelf.SlSortCmp.NoneTotal
import Derived.RangeFuncGives
import Derived.RangeFuncSeq
import Derived.Sort.MapsRangeIn
import Derived.OwnWalkIn
import Derived.TacticsInMore
import Derived.RegionIn
import Derived.LoopNIn
import Derived.LoopIn
import Derived.RangeFuncBox
import Derived.RangeFuncOwn
import Derived.RangeFuncKeeps
import Derived.RangeFuncNested
import Derived.RangeFuncBound
namespace Go.Proofs.YtkkfioebpppffaaGreatDoor.Fl
open Go.Proofs.YtkkfioebpppffaaGreatDoor Go.ChangeShapes Go.WideShapes Go.ChangeAt Go.RowKit Go.Maps N
open Go.Shelf Go.Lib
set_option maxHeartbeats 4000000
set_option maxRecDepth 100000
shelf_lay_g SlLaysF0.n6 Slsf 6 at Tryz 28 as Tryz.sortF

instance : Inhabited Fw := ⟨zFw⟩
@[reducible] def kF : Ow.Rk Fw where
  eT := 45
  sT := 41
  z := 12
  bs := 48
  cs := Fw.cells
  zero := .agg zFw.cells
  len x := rfl
  one x := x.one
  zp := by decide
  bp := by decide
  us := by kernel_rfl
  el := by kernel_rfl
  info := by kernel_rfl
  zs := rfl
  ue := isFw
def fwC (l : Fw) : List Value := l.cells.toList
theorem fwC_len (l : Fw) : (fwC l).length = 12 := rfl
theorem flat_get {α : Type} (enc : α → List Value) (k : Nat) (hk0 : 0 < k) (hk : ∀ x, (enc x).length = k) : ∀ (L : List α) (t : Nat) (ht : t < L.length * k), (L.flatMap enc)[t]? = (enc (L[t / k]'(Nat.div_lt_of_lt_mul (by rw [Nat.mul_comm]; exact ht))))[t % k]?
  | [], t, ht => by simp at ht
  | x :: L, t, ht => by
    rw [List.flatMap_cons]
    by_cases h : t < k
    · rw [List.getElem?_append_left (by rw [hk]; exact h)]
      have e1 : t / k = 0 := Nat.div_eq_of_lt h
      have e2 : t % k = t := Nat.mod_eq_of_lt h
      simp only [e1, e2, List.getElem_cons_zero]
    · rw [List.getElem?_append_right (by rw [hk]; omega), hk]
      have hlt : t - k < L.length * k := by
        have : (x :: L).length * k = L.length * k + k := by simp [Nat.succ_mul]
        omega
      rw [flat_get enc k hk0 hk L (t - k) hlt]
      have e1 : t / k = (t - k) / k + 1 := Nat.div_eq_sub_div hk0 (by omega)
      have e2 : t % k = (t - k) % k := Nat.mod_eq_sub_mod (by omega)
      simp only [e1, e2, List.getElem_cons_succ]
theorem fw_get (L : List Fw) (t : Nat) (h : t < L.length * 12) : (L.flatMap fwC)[t]? = some ((fwC L.toArray[t / 12]!)[t % 12]!) := by
  have h2 : t / 12 < L.length := by omega
  rw [flat_get fwC 12 (by omega) fwC_len L t h]
  have e : L.toArray[t / 12]! = L[t / 12] := by simp [h2]
  rw [e]
  have h3 : t % 12 < (fwC L[t / 12]).length := by rw [fwC_len]; omega
  rw [List.getElem?_eq_getElem h3]
  congr 1
  exact (getElem!_pos (fwC L[t / 12]) (t % 12) h3).symm
theorem rl_fw (L : List Fw) : Ow.rl kF L = L.flatMap fwC := rfl

theorem sortF_any (f : FuncId) (cmp : Fw → Fw → Int) (swo : Sort.SWO (ltOf cmp)) (hcl : ∀ (x y : Fw) (w : World), Calls Tryz.prog f #[.agg x.cells, .agg y.cells] w fun e w' => e = .returned (.int .i64 (cmp x y)) ∧ ∃ q os', w' = Sort.grow (w.drewN q) os')
    (eg : ∀ args w, (callFunc f args).run Tryz.prog w = .ok (.enter f args) w) (a : Option Addr) (n cp : Nat) (L : List Fw) (B : Nat) (w : World) (ho : Ow.Own kF w B (.slice a n cp) L) (hB : B ≤ w.heap.size) (hle : L.length ≤ 1000000) :
    Calls Tryz.prog 28 #[.slice a n cp, .func (.func f) #[] #[]] w fun e w' => e = .returned (.tuple #[]) ∧ ∃ L' : List Fw, L'.Perm L ∧ L'.Pairwise (fun x y => ltOf cmp y x = false) ∧ Ow.Own kF w' B (.slice a n cp) L' ∧ Below B w w' := by
  rcases ho.2 with ⟨h0, hn0⟩ | ⟨g, cap, cur, h0, hbb, hg, h1, h2, h3, h4⟩
  · simp only [Value.slice.injEq] at h0
    obtain ⟨rfl, rfl, rfl⟩ := h0
    have hss : L = [] := List.eq_nil_of_length_eq_zero hn0
    subst hss
    have hcon := AnyF.slices_SortFunc_none Tryz.sortF none 0 (.func (.func f) #[] #[]) w
    change Calls Tryz.prog 28 _ _ _ at hcon
    refine hcon.mono ?_
    rintro e w' ⟨rfl, rfl⟩
    exact ⟨rfl, [], List.Perm.refl _, List.Pairwise.nil, ho, Below.refl _ _⟩
  · simp only [Value.slice.injEq] at h0
    obtain ⟨rfl, rfl, rfl⟩ := h0
    rw [rl_fw] at h4
    change cur.size = cp * 12 at h3
    change cur.toList.take (L.length * 12) = _ at h4
    have hH : Sort.HoldsK fwC 12 w g 0 L.toArray := by
      intro t ht
      rw [Sort.size_flatK] at ht
      have ht' : t < L.length * 12 := by simpa using ht
      rw [Sort.get_flatK _ _ _ _ ht, Nat.zero_add]
      refine ⟨?_, frozen_of_row _ _ _ _ _ hg⟩
      have e := fw_get L t ht'
      rw [← h4, List.getElem?_take, if_pos ht'] at e
      rw [cell_of_row _ _ _ _ _ _ hg]
      simpa using e
    have hlt := (Array.getElem?_eq_some_iff.1 hg).1
    have hsz : L.toArray.size = L.length := by simp
    have HLS : Hid (L.toArray.size < 4611686018427387904) := by unfold Hid; rw [hsz]; omega
    have hone : ∀ x : Fw, ∀ v ∈ fwC x, v.oneCell' = true := fun x v hv => by
      have := x.one
      rw [Array.all_eq_true_iff_forall_mem] at this
      exact this v (by simpa [fwC] using hv)
    have hcon := AnyQ.slices_SortFunc Tryz.sortF 12 Tryz.isAgg45 Tryz.sizeOf45 fwC (fun _ => rfl) hone cmp swo f #[] g 0 cp L.toArray w eg (fun _ _ _ _ x y => hcl x y _) hH hlt HLS.out
    change Calls Tryz.prog 28 _ _ _ at hcon
    rw [hsz] at hcon
    refine hcon.mono ?_
    rintro e w' ⟨rfl, d, m, os, hp, hs, rfl⟩
    obtain ⟨p1, -, p2⟩ := hp
    have e1 : d.extract 0 L.length = d := by rw [← hsz, ← p1]; simp
    have e2 : (L.toArray.extract 0 L.length).toList = L := by rw [← hsz]; simp
    rw [e1, e2] at p2
    have hdl : d.size = L.length := by rw [p1, hsz]
    refine ⟨rfl, d.toList, p2, ?_, ?_, ?_⟩
    · rw [List.pairwise_iff_getElem]
      intro i j hi hj hij
      rw [Array.length_toList] at hi hj
      have h5 := hs i j (Nat.zero_le _) hij (by rw [← hdl]; exact hj)
      rw [getElem!_pos d i hi, getElem!_pos d j hj] at h5
      rw [Array.getElem_toList, Array.getElem_toList]
      simpa using h5
    · have hb : (sortWorldK fwC 12 w g 0 m d os).heap[g]? = some (.cells (Sort.putCells id 0 (Sort.flatK fwC 12 d) cur) 45 (0, 0)) := by
        show ((w.heap.modify g _) ++ os)[g]? = _
        rw [Array.getElem?_append_left (by simpa using hlt), Array.getElem?_modify, if_pos rfl, hg]
        rfl
      have hl2 : d.toList.length = L.length := by simp [hdl]
      have HFL : (Ow.rl kF d.toList).length = L.length * 12 := by rw [Ow.rl_len, hl2]
      unfold Ow.Own
      rw [hl2]
      refine ⟨HFL, .inr ⟨g, cp, _, rfl, hbb, hb, h1, h2, by simpa [Sort.putCells] using h3, ?_⟩⟩
      rw [rl_fw] at HFL ⊢
      apply List.ext_getElem?
      intro t
      rw [List.getElem?_take]
      show (if t < L.length * 12 then _ else _) = _
      by_cases ht : t < L.length * 12
      · rw [if_pos ht, fw_get d.toList t (by simpa [hdl] using ht)]
        have ht2 : t < cur.size := by omega
        have e1 : t < (Sort.flatK fwC 12 d).size := by rw [Sort.size_flatK, hdl]; omega
        simp only [Sort.putCells, Array.getElem?_toList, Array.getElem?_mapIdx, Array.getElem?_eq_getElem ht2, Option.map_some, Nat.zero_le, Nat.zero_add, Nat.sub_zero, true_and, e1, if_true, id]
        rw [Sort.get_flatK _ _ _ _ (by rw [hdl]; exact ht)]
      · rw [if_neg ht, List.getElem?_eq_none (by rw [HFL]; omega)]
    · exact ⟨rfl, rfl, rfl, size_sortWorldK_c fwC 12 w g 0 m d os, fun k hk => by
        show ((w.heap.modify g _) ++ os)[k]? = _
        rw [Array.getElem?_append_left (by simp; omega), Array.getElem?_modify, if_neg (by omega)]⟩
end Go.Proofs.YtkkfioebpppffaaGreatDoor.Fl

namespace Go.Proofs.YtkkfioebpppffaaGreatDoor.Fl
open Go.Proofs.YtkkfioebpppffaaGreatDoor Go.ChangeShapes Go.WideShapes Go.ChangeAt Go.RowKit Go.Maps N
open Go.Shelf
set_option maxHeartbeats 4000000
set_option maxRecDepth 100000

/-- What a round keeps: all that is no cells. -/
structure KeepsC (W W' : World) : Prop where
  size : W.heap.size ≤ W'.heap.size
  same : ∀ (k : Nat) (o : Obj), W.heap[k]? = some o → o.isCells = false → W'.heap[k]? = some o
theorem KeepsC.refl (W : World) : KeepsC W W := ⟨Nat.le_refl _, fun _ _ h _ => h⟩
theorem KeepsC.trans {X Y Z : World} (h : KeepsC X Y) (k : KeepsC Y Z) : KeepsC X Z := ⟨Nat.le_trans h.size k.size, fun _ _ hi ho => k.same _ _ (h.same _ _ hi ho) ho⟩
theorem KeepsC.of_below {W W' : World} (h : Below W.heap.size W W') : KeepsC W W' := ⟨h.size, fun k _ hk _ => (h.block k (Array.getElem?_eq_some_iff.1 hk).1).trans hk⟩
theorem KeepsC.grown {W W' : World} {row : Option Nat} (h : W.grownBy W' row) (hr : ∀ r, row = some r → ∃ cs t, W.heap[r]? = some (.cells cs t)) : KeepsC W W' :=
  ⟨h.size, fun k o hk ho => (h.block k (Array.getElem?_eq_some_iff.1 hk).1 (fun e => by
    obtain ⟨cs, t, hc⟩ := hr k e.symm
    rw [hk] at hc
    cases hc
    cases ho)).trans hk⟩
theorem KeepsC.walks {W W' : World} (h : KeepsC W W') : KeepsWalks W W' := ⟨h.size, fun k o hk ho => h.same k o hk (by cases o <;> simp_all [Obj.isWalk, Obj.isCells])⟩

/-- The invariant abides what is no cells from B on. -/
def OwnC {β : Type} (B : Nat) (I : β → World → Prop) : Prop :=
  ∀ s W W' row, I s W → W.grownBy W' row → (∀ r, row = some r → B ≤ r ∧ ∃ o : Obj, W.heap[r]? = some o ∧ o.isCells = false) → I s W'
theorem OwnC.put {β : Type} {B : Nat} {I : β → World → Prop} (h : OwnC B I) {s : β} {W : World} {l : Nat} {o : Obj} (o' : Obj) (hs : I s W) (hB : B ≤ l) (hl : W.heap[l]? = some o) (ho : o.isCells = false) : I s (W.putObj l o') :=
  h s W _ (some l) hs (grownBy_putObj' W l o') (fun r e => by cases e; exact ⟨hB, o, hl, ho⟩)
theorem OwnC.alloc {β : Type} {B : Nat} {I : β → World → Prop} (h : OwnC B I) {s : β} {W : World} (o : Obj) (hs : I s W) : I s (W.alloc o) :=
  h s W _ none hs (World.grownBy_alloc W o none) (fun r e => by cases e)

theorem wpIn_seq {F : Fence} {n : Nat} {P : Program} {α β : Type} {g : Operand} {ps : Array Tmp} {assign body : Code} {Q : Exit → Act → World → Prop} {a : Act} {w : World}
    (hro : F.round = none) (h1 : 1 ≤ n) {gf : Nat} {lb : Array Value} (hg : a.eval g = .func (.func gf) #[] lb) (hFg : F.fn gf) (eg : ∀ args w, (callFunc gf args).run P w = .ok (.enter gf args) w)
    {enc : α → Value} {S : List α → Prop} {N : Nat} (hseq : SeqGives F (n - 1) P gf lb enc S N w) (hps : ps.size = 1)
    (I : List α → World → Prop) (hI : OwnC w.heap.size I) (h0 : I [] w) (up : α → β → Array Value → Array Value) (Ay : α → β → World → Prop) (hAy : ∀ x y, OwnC w.heap.size (fun (_ : Unit) W => Ay x y W))
    (hassign : ∀ (l : Nat) (pre : List α) (x : α) (W : World) (K : Act → World → Prop), I pre W → (∀ y W', KeepsC W W' → I pre W' → Ay x y W' → K { tmps := up x y a.tmps, defers := [] } W') →
      assign.wpIn (F.inRound l) (n - 1 - 1) P (Exit.then K (fun _ _ _ => False)) { tmps := (ps.zip #[enc x]).foldl (fun t (p, v) => t.setIfInBounds p v) a.tmps, defers := [] } W)
    (hbody : ∀ (l : Nat) (pre : List α) (x : α) (y : β) (W : World), w.heap.size ≤ l → I pre W → Ay x y W → pre.length < N → body.wpIn (F.inRound l) (n - 1 - 1) P (fun e _ W' => e = .normal ∧ KeepsC W W' ∧ I (pre ++ [x]) W') { tmps := up x y a.tmps, defers := [] } W)
    (hdone : ∀ (D : Nat) (W : World) (xs : List α), w.heap.size ≤ D → S xs → I xs W → W.heap[D]? = some (.deferred (some [])) → Q .normal { a with defers := { target := .collected D, args := #[] } :: a.defers } W) :
    (Code.rangeFunc g ps assign body).wpIn F n P Q a w := by
  refine wpIn_rangeFunc fun fn hfn => ?_
  rw [hro]
  let R : LoopState → Option Code → Loop := fun st pe => { state := st, pending := pe, fn, tmps := a.tmps, params := ps, assign, body, defers := w.heap.size }
  obtain ⟨W1, hW1⟩ : ∃ W1, (w.alloc (.deferred (some []))).alloc (.loop (R .ready none)) = W1 := ⟨_, rfl⟩
  have hs1 : W1.heap.size = w.heap.size + 2 := by rw [← hW1]; simp
  have hb1 : Below w.heap.size w W1 := by rw [← hW1]; exact ((Below.refl _ _).alloc (Nat.le_refl _) _).alloc (by simp) _
  have hl1 : W1.heap[w.heap.size + 1]? = some (.loop (R .ready none)) := by
    have := World.alloc_heap_new (w.alloc (.deferred (some []))) (.loop (R .ready none))
    rw [World.size_alloc] at this
    rw [← hW1]; exact this
  have hd1 : W1.heap[w.heap.size]? = some (.deferred (some [])) := by
    rw [← hW1]; exact (Below.heap_alloc _ _ _ (by simp)).trans (World.alloc_heap_new w _)
  have hkeep : ∀ {A B : World} {row : Option Nat} {k : Nat} {o : Obj}, A.grownBy B row → (∀ r, row = some r → W1.heap.size ≤ r ∧ ∃ o : Obj, A.heap[r]? = some o ∧ o.isWalk = true) → k < W1.heap.size → A.heap[k]? = some o → B.heap[k]? = some o :=
    fun hg' hr hk ho => (hg'.block _ (Array.getElem?_eq_some_iff.1 ho).1 (fun e => by have := (hr _ e.symm).1; omega)).trans ho
  have walkC : ∀ o : Obj, o.isWalk = true → o.isCells = false := fun o h => by cases o <;> simp_all [Obj.isWalk, Obj.isCells]
  refine ⟨w.heap.size + 1, [{ target := .collected w.heap.size, args := #[] }], W1, { target := .fn (.func gf) lb, args := #[.func (.yield (w.heap.size + 1)) #[] #[]] }, W1, gf, #[.func (.yield (w.heap.size + 1)) #[] #[]] ++ lb, W1, ?_, ?_, ?_, ?_, fun _ => h1, ?_⟩
  · rw [← hW1]; exact run_enterLoop_outer _ _ _ _ _
  · simp only [resolve, hg]; simp [go_sem]
  · intro f' hf'; simp [Target.leads] at hf'; subst hf'; exact hFg
  · simp [invoke, go_sem, eg]
  · refine (hseq (w.heap.size + 1) (fun k W => I k W ∧ W.heap[w.heap.size + 1]? = some (.loop (R .ready none)) ∧ W.heap[w.heap.size]? = some (.deferred (some []))) W1 hb1 ?_ ?_ ⟨?_, hl1, hd1⟩).mono ?_
    · rintro k A B row ⟨i1, i2, i3⟩ hg' hr
      exact ⟨hI k A B row i1 hg' (fun r e => ⟨by have := (hr r e).1; omega, by obtain ⟨o, ho, hw⟩ := (hr r e).2; exact ⟨o, ho, walkC o hw⟩⟩), hkeep hg' hr (by omega) i2, hkeep hg' hr (by omega) i3⟩
    · rintro pre x V ⟨i1, i2, i3⟩ hlen
      refine ⟨fn, _, assign, body, run_yield (P := P) (args := #[enc x]) i2 (by simp [R, hps]), roundIn_of_wpIn hfn (hassign _ pre x V _ i1 fun y W ka ia ax => ?_)⟩
      replace i1 := ia
      replace i2 := ka.same _ _ i2 rfl
      replace i3 := ka.same _ _ i3 rfl
      refine ⟨_, run_beginRound i2 rfl, ?_⟩
      have hlt := (Array.getElem?_eq_some_iff.1 i2).1
      obtain ⟨Wb, hWb⟩ : ∃ Wb, Wb = W.putObj (w.heap.size + 1) (.loop { R .ready none with state := .busy }) := ⟨_, rfl⟩
      have b2 : Wb.heap[w.heap.size + 1]? = some (.loop { R .ready none with state := .busy }) := by rw [hWb]; exact World.putObj_heap_same hlt
      have b3 : Wb.heap[w.heap.size]? = some (.deferred (some [])) := by rw [hWb]; exact (World.putObj_heap_other (by omega)).trans i3
      have b1 : I pre Wb := by rw [hWb]; exact hI.put _ i1 (by omega) i2 rfl
      have bx : Ay x y Wb := by rw [hWb]; exact (hAy x y).put (s := ()) _ ax (by omega) i2 rfl
      have kb : KeepsWalks V Wb := ka.walks.trans (by rw [hWb]; exact KeepsWalks.putObj _ i2 rfl)
      rw [← hWb]
      refine wpIn_mono (hbody _ pre x y Wb (by omega) b1 bx hlen) ?_
      rintro e a3 W3 ⟨rfl, k1, k2⟩
      have c2 := k1.same _ _ b2 rfl
      have c3 := k1.same _ _ b3 rfl
      exact ⟨_, _, run_endRound (P := P) none c2, rfl, ⟨hI.put _ k2 (by omega) c2 rfl, World.putObj_heap_same (Array.getElem?_eq_some_iff.1 c2).1, (World.putObj_heap_other (by omega)).trans c3⟩, (kb.trans k1.walks).trans (KeepsWalks.putObj _ c2 rfl)⟩
    · rw [← hW1]; exact hI.alloc _ (hI.alloc _ h0)
    · rintro e W2 ⟨⟨v, rfl⟩, xs, hS, i1, i2, i3⟩
      exact ⟨none, _, run_endLoop (P := P) i2 (by simp [R]), hdone _ _ xs (Nat.le_refl _) hS (hI.put _ i1 (by omega) i2 rfl) ((World.putObj_heap_other (by omega)).trans i3)⟩

/-- Behind an append and the store of its slice into its box. -/
theorem grew {W w6 : World} {tmp : Obj} {v u : Value} (B : Nat) (hg : (W.alloc tmp).grownBy w6 v.ownBlock) : Chg (fun b => b = B ∨ v.ownBlock = some b) W (w6.setCell ⟨B, 0, none⟩ u) := by
  have hs : W.heap.size ≤ w6.heap.size := Nat.le_trans (by simp) hg.size
  have bt := But.set B 0 w6 u
  refine ⟨bt.os.trans hg.os, bt.tape.trans hg.tape, bt.output.trans hg.output, Nat.le_trans hs bt.size, fun j hj hn => ?_⟩
  rw [bt.block j (by omega) (fun e => hn (.inl e)), hg.block j (by simp; omega) (fun e => hn (.inr e.symm))]
  exact Below.heap_alloc _ _ _ hj

theorem row_own {W : World} {base : Nat} {e : TypeId} {size n : Nat} {v : Value} {xs : List Value} (h : W.ownsRow base e size v n xs) {b : Nat} (hb : v.ownBlock = some b) : base ≤ b ∧ ∃ cs, W.heap[b]? = some (.cells cs e) := by
  rcases h.2 with ⟨hv, _⟩ | ⟨g, cap, cur, hv, h1, h2, _⟩
  · rw [hv] at hb; cases hb
  · rw [hv] at hb
    obtain rfl : g = b := by simpa [Value.ownBlock] using hb
    exact ⟨h1, cur, h2⟩

theorem row_chg {W W' : World} {base : Nat} {e : TypeId} {size n : Nat} {v : Value} {xs : List Value} {X : Nat → Prop} (h : W.ownsRow base e size v n xs) (hc : Chg X W W') (hx : ∀ b, v.ownBlock = some b → ¬ X b) : W'.ownsRow base e size v n xs := by
  refine ⟨h.1, ?_⟩
  rcases h.2 with h1 | ⟨g, cap, cur, hv, hb, hg, hrest⟩
  · exact .inl h1
  · exact .inr ⟨g, cap, cur, hv, hb, (hc.block g (Array.getElem?_eq_some_iff.1 hg).1 (hx g (by rw [hv]; rfl))).trans hg, hrest⟩

theorem row_base {W : World} {b c : Nat} {e : TypeId} {size n : Nat} {v : Value} {xs : List Value} (h : W.ownsRow b e size v n xs) (hb : c ≤ b) : W.ownsRow c e size v n xs := by
  refine ⟨h.1, ?_⟩
  rcases h.2 with h1 | ⟨g, cap, cur, hv, hb', hrest⟩
  · exact .inl h1
  · exact .inr ⟨g, cap, cur, hv, Nat.le_trans hb hb', hrest⟩

/-! ### rounds: a struct in a block -/
theorem wpListIn_stR {m : Nat} {ops : Array Oper} {rest : List Oper} {o : Oper} {a : Act} {w : World} {Q : Exit → Act → World → Prop} {F : Fence} (hF : ∀ f, F.fn f) (hgd : o.guard = none) (T : TypeId) (x y : Operand) (ho : o.op = .store T x y)
    (g : Nat) (cells : Array Value) (hx : a.eval x = .pointer (some ⟨g, 0, none⟩)) (hy : a.eval y = .agg cells)
    (t : TypeId) (old : Array Value) (hg : w.heap[g]? = some (.cells old t (0, 0))) (hi : (Tryz.prog.info? T).map (·.size) = some cells.size)
    (hold : old.size = cells.size) (h1 : cells.all (·.oneCell') = true)
    (h : ∀ w', w'.heap[g]? = some (.cells cells t (0, 0)) → But g w w' → wpListIn F m Tryz.prog ops Q rest (a.put o.dst undef) w') : wpListIn F m Tryz.prog ops Q (o :: rest) a w :=
  wpListIn_plain hgd fun _ hK => by
    refine ⟨fun f _ => hF f, ?_⟩
    rw [Oper.semAt_eq _ _ _ (by rw [ho]; intro c hc; cases hc)]
    unfold execOp
    simp only [ho, hx, hy, Instr.storeAt, Instr.sureAddr, Sem.run_bind, Sem.run_pure, Result.andThen_ok, run_storeVar_row w g t T old cells hg hi hold h1]
    exact hK _ _ (h _ (setRow_heap w g _ _ t _ hg) (But.setRow g w cells))
theorem wpListIn_vl {m : Nat} {ops : Array Oper} {rest : List Oper} {o : Oper} {a : Act} {w w' : World} {v : Value} {Q : Exit → Act → World → Prop} {F : Fence} (hF : ∀ f, F.fn f) (hgd : o.guard = none) (hd : ∀ c, o.op ≠ .defer c)
    (hr : (execOp a.eval o).run Tryz.prog w = .ok (.value v) w') (h : wpListIn F m Tryz.prog ops Q rest (a.put o.dst v) w') : wpListIn F m Tryz.prog ops Q (o :: rest) a w :=
  wpListIn_plain hgd fun _ hK => by
    refine ⟨fun f _ => hF f, ?_⟩
    rw [Oper.semAt_eq _ _ _ hd, hr]
    exact hK _ _ h
end Go.Proofs.YtkkfioebpppffaaGreatDoor.Fl
