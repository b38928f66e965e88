/-
  Trie.Find.
-/
import Derived.Test.YtmnafocmbcgdiabVR
namespace Go.Proofs.Ytmnafocmbcgdiab
open Go.ChangeShapes Go.WideShapes Go.ChangeAt Go.RowKit Go.Shelf Tri N
attribute [local go_sem] Oper.semAt_some
set_option maxHeartbeats 4000000
set_option maxRecDepth 100000

def MT.hasV : MT → Bool
  | .nil => false
  | .node _ _ _ u _ _ => u.isSome

/-- The last one with a value. -/
def lvF (acc : MT) (L : List MT) : MT := L.foldl (fun x q => if q.hasV then q else x) acc

theorem lvF_snoc (acc : MT) (L : List MT) (q : MT) : lvF acc (L ++ [q]) = if q.hasV then q else lvF acc L := by
  unfold lvF
  rw [List.foldl_append]
  rfl

theorem lv_find (m : MT) (a : Nat) : ∀ acc : MT, (find m.tr a = none ∧ lvF acc (path m a) = acc) ∨ ∃ b c k v l r, find m.tr a = some (k, v) ∧ lvF acc (path m a) = .node b c k (some v) l r ∧ ∀ W X, Lies W X m → Lies W X (.node b c k (some v) l r) := by
  induction m with
  | nil => intro acc; exact .inl ⟨rfl, rfl⟩
  | node b c k u l r il ir =>
    intro acc
    simp only [MT.tr, find, path]
    cases hk : hasK k a with
    | false => exact .inl ⟨rfl, rfl⟩
    | true =>
      simp only [if_true]
      have key : ∀ ch : MT, (∀ acc : MT, (find ch.tr a = none ∧ lvF acc (path ch a) = acc) ∨ ∃ b c k v l r, find ch.tr a = some (k, v) ∧ lvF acc (path ch a) = .node b c k (some v) l r ∧ ∀ W X, Lies W X ch → Lies W X (.node b c k (some v) l r)) →
          (∀ W X, Lies W X (.node b c k u l r) → Lies W X ch) →
          ((find ch.tr a).or (u.map fun v => (k, v)) = none ∧ lvF acc (.node b c k u l r :: path ch a) = acc) ∨ ∃ b' c' k' v' l' r', (find ch.tr a).or (u.map fun v => (k, v)) = some (k', v') ∧ lvF acc (.node b c k u l r :: path ch a) = .node b' c' k' (some v') l' r' ∧ ∀ W X, Lies W X (.node b c k u l r) → Lies W X (.node b' c' k' (some v') l' r') := fun ch ih hL => by
        have e : lvF acc (.node b c k u l r :: path ch a) = lvF (if u.isSome then .node b c k u l r else acc) (path ch a) := rfl
        rw [e]
        rcases ih (if u.isSome then .node b c k u l r else acc) with ⟨h1, h2⟩ | ⟨b', c', k', v', l', r', h1, h2, h3⟩
        · rw [h1, h2]
          cases u with
          | none => exact .inl ⟨rfl, rfl⟩
          | some v => exact .inr ⟨b, c, k, v, l, r, rfl, rfl, fun _ _ h => h⟩
        · rw [h1, h2]
          exact .inr ⟨b', c', k', v', l', r', rfl, rfl, fun W X h => h3 W X (hL W X h)⟩
      by_cases hs : side a k.n = 0
      · simp only [hs, if_true]
        exact key l il (fun W X h => h.2.2.2.1)
      · simp only [hs, if_false]
        exact key r ir (fun W X h => h.2.2.2.2)

theorem path_node {m q : MT} {a : Nat} (h : q ∈ path m a) : (∃ b c k u l r, q = .node b c k u l r) ∧ ∀ W X, Lies W X m → Lies W X q := by
  induction m with
  | nil => simp [path] at h
  | node b c k u l r il ir =>
    rw [path] at h
    split at h
    · rcases List.mem_cons.1 h with h | h
      · exact ⟨⟨b, c, k, u, l, r, h⟩, fun W X hL => by rw [h]; exact hL⟩
      · split at h
        · exact ⟨(il h).1, fun W X hL => (il h).2 W X hL.2.2.2.1⟩
        · exact ⟨(ir h).1, fun W X hL => (ir h).2 W X hL.2.2.2.2⟩
    · simp at h

theorem holding_any (m : MT) (a : Nat) (w : World) :
    Calls Try.prog 25 #[m.ptr, .int .u32 (a : Int)] w fun e w' => e = .returned (.func (.func 39) #[] #[.pointer (some ⟨w.heap.size, 0, none⟩), .pointer (some ⟨w.heap.size + 1, 0, none⟩)]) ∧ w' = (w.alloc (.cells #[m.ptr] 48)).alloc (.cells #[.int .u32 (a : Int)] 29) := by
  obtain ⟨mp, hmp⟩ := ptr_is m
  rw [hmp]
  go_enter Try.func25, Try.ntmps25
  go_wp2_with fail
  go_ret
  exact ⟨rfl, rfl⟩

theorem But.drew {g : Nat} {w w' : World} (h : But g w w') : But g w w'.drew := ⟨h.os, h.tape, h.output, h.size, h.block⟩

/-- What hangs on the blocks below B alone is the caller's own. -/
theorem ownFrom_below' {B : Nat} {I : Nat → World → Prop} (hs : ∀ k W, I k W → B ≤ W.heap.size) (h : ∀ k W W', I k W → Below B W W' → I k W') : OwnFrom B I := fun k W W' row hi hg hr =>
  h k W W' hi ⟨hg.os, hg.tape, hg.output, hg.size, fun j hj => hg.block j (Nat.lt_of_lt_of_le hj (hs k W hi)) (fun e => by have := (hr j e.symm).1; omega)⟩

theorem take_snoc {α : Type} {L : List α} {j : Nat} {x : α} (h : L[j]? = some x) : L.take (j + 1) = L.take j ++ [x] := by
  obtain ⟨hj, rfl⟩ := List.getElem?_eq_some_iff.1 h
  rw [List.take_succ_eq_append_getElem hj]

/-- What Find answers. -/
def findV (o : Option (K × Int)) : Value :=
  match o with
  | none => .tuple #[.agg #[.int .u32 0, .int .i64 0], .int .i64 0, .int .i64 3]
  | some (k, v) => .tuple #[pv k, .int .i64 v, .int .i64 0]

def dstZ (i : Nat) : Option Tmp := [some 27, some 28, some 29, some 30, some 31, some 32, some 33, some 34, some 35, some 36, none, some 5, some 6].getD i none
theorem dlZ {s : Nat} (h : some s ∉ [some 27, some 28, some 29, some 30, some 31, some 32, some 33, some 34, some 35, some 36, none, some 5, some 6]) : ∀ j, j < 13 → dstZ j ≠ some s := fun j hj e => h (by
  unfold dstZ at e
  rw [← e, List.getD_eq_getElem?_getD, List.getElem?_eq_getElem (by exact hj)]
  exact List.getElem_mem _)
/-- Find's last region: what is read, and the result in its cell. -/
def FZ (l : List Value) (s : Nat) (row : Array Value) (i : Nat) (vs : Nat → Value) (w : World) : Prop := l[i]? = some (vs i) ∧ (i = 10 → w.heap[s]? = some (.cells row 31))
def IZ (W : World) (s : Nat) (u : World) : Prop := But s W u ∧ ∃ x y, u.heap[s]? = some (.cells #[x, y] 31)
def RZ (s : Nat) (j : Nat) (w w' : World) : Prop := if j = 10 then But s w w' else w'.heap = w.heap

theorem FZ.keeps (l : List Value) (s : Nat) (row : Array Value) (ops : List Oper) (I : World → Prop) : ∀ (i j : Nat) (o : Oper) (vs : Nat → Value) (v : Value) (w w' : World), i ≠ j → ops[i]? = some o → (∀ e ∈ o.after, Region.binds .any e = true → e.on ≠ j) → FZ l s row i vs w → I w → RZ s j w w' → FZ l s row i (upd vs j v) w' := fun i j o vs v w w' hij _ _ h _ hr => by
  refine ⟨by rw [upd_ne _ hij]; exact h.1, fun hi => ?_⟩
  unfold RZ at hr
  rw [if_neg (by omega)] at hr
  rw [hr]
  exact h.2 hi

theorem wp_stillZ {P : Program} {o : Oper} {a : Act} {W w : World} {Q : Exit → Act → World → Prop} {l : List Value} {s : Nat} {row : Array Value} {vs : Nat → Value} {i : Nat} {d : Option Tmp} {v : Value} (hr : (execOp a.eval o).run P w = .ok (.value v) w) (ht : o.dst = d) (hv : l[i]? = some v) (hi : i ≠ 10) (hI : IZ W s w) :
    o.wp P a w (fun a' w' => ∃ v', a' = a.put d v' ∧ FZ l s row i (upd vs i v') w' ∧ IZ W s w' ∧ RZ s i w w') Q :=
  wp_val hr (by rw [ht]; exact ⟨v, rfl, ⟨by rw [upd_eq]; exact hv, fun e => absurd e hi⟩, hI, by unfold RZ; rw [if_neg hi]⟩)

theorem ex_assign {P : Program} {o : Oper} {a : Act} {w : World} (x : Operand) (v : Value) (ho : o.op = .assign x) (hx : a.eval x = v) : (execOp a.eval o).run P w = .ok (.value v) w := by
  unfold execOp
  simp only [ho, hx, Sem.run_pure]

theorem find_any {X : Nat → Prop} {tb : Nat} {t : Tr} (a : Nat) (w : World) (hT : TrieAt w X tb t) :
    Calls Try.prog 15 #[.pointer (some ⟨tb, 0, none⟩), .int .u32 (a : Int)] w fun e w' => e = .returned (findV (find t a)) ∧ Below w.heap.size w w' := by
  obtain ⟨hmem, hlt, ⟨m, hrow, hmt, hL⟩, hwf⟩ := hT
  have hlt0 := (Array.getElem?_eq_some_iff.1 hrow).1
  obtain ⟨w1, hw1⟩ : ∃ w1, w1 = w.alloc (.cells #[.int .u32 0, .int .i64 0] 31) := ⟨_, rfl⟩
  obtain ⟨w2, hw2⟩ : ∃ w2, w2 = w1.alloc (.cells #[.pointer none] 48) := ⟨_, rfl⟩
  obtain ⟨w3, hw3⟩ : ∃ w3, w3 = w2.alloc (.cells #[m.ptr] 48) := ⟨_, rfl⟩
  obtain ⟨w4, hw4⟩ : ∃ w4, w4 = w3.alloc (.cells #[.int .u32 (a : Int)] 29) := ⟨_, rfl⟩
  have hs1 : w1.heap.size = w.heap.size + 1 := by rw [hw1]; simp
  have hs2 : w2.heap.size = w.heap.size + 2 := by rw [hw2]; simp; omega
  have hs3 : w3.heap.size = w.heap.size + 3 := by rw [hw3]; simp; omega
  have hs4 : w4.heap.size = w.heap.size + 4 := by rw [hw4]; simp; omega
  have b1 : Below w.heap.size w w1 := by rw [hw1]; exact (Below.refl _ _).alloc (Nat.le_refl _) _
  have b2 : Below w1.heap.size w1 w2 := by rw [hw2]; exact (Below.refl _ _).alloc (Nat.le_refl _) _
  have b3 : Below w2.heap.size w2 w3 := by rw [hw3]; exact (Below.refl _ _).alloc (Nat.le_refl _) _
  have b4 : Below w3.heap.size w3 w4 := by rw [hw4]; exact (Below.refl _ _).alloc (Nat.le_refl _) _
  have b02 : Below w.heap.size w w2 := b1.trans (b2.mono (by omega))
  have b04 : Below w.heap.size w w4 := b02.trans ((b3.trans (b4.mono (by omega))).mono (by omega))
  have r0 : w4.heap[w.heap.size]? = some (.cells #[.int .u32 0, .int .i64 0] 31) := by
    rw [b4.block _ (by omega), b3.block _ (by omega), b2.block _ (by omega), hw1]; exact heap_alloc_new w _
  have r1 : w4.heap[w.heap.size + 1]? = some (.cells #[.pointer none] 48) := by
    rw [b4.block _ (by omega), b3.block _ (by omega), hw2, ← hs1]; exact heap_alloc_new w1 _
  have r2 : w4.heap[w.heap.size + 2]? = some (.cells #[m.ptr] 48) := by
    rw [b4.block _ (by omega), hw3, ← hs2]; exact heap_alloc_new w2 _
  have r3 : w4.heap[w.heap.size + 3]? = some (.cells #[.int .u32 (a : Int)] 29) := by
    rw [hw4, ← hs3]; exact heap_alloc_new w3 _
  have HW2 : Hid (w2 = (w.alloc (.cells #[.int .u32 0, .int .i64 0] 31)).alloc (.cells #[.pointer none] 48)) := by unfold Hid; rw [hw2, hw1]
  have HHD := hid (holding_any m a w2)
  rw [← hw3, ← hw4, hs2] at HHD
  have t0 : w2.cell? ⟨tb, 0, none⟩ = some m.ptr := by rw [cell_of_row _ _ _ _ _ _ (below_keeps b02 hrow hlt0)]; rfl
  obtain ⟨mp, hmp⟩ := ptr_is m
  have HI0 : Hid (w.heap.size + 4 ≤ w4.heap.size ∧ Below w.heap.size w w4 ∧ w4.heap[w.heap.size]? = some (.cells #[.int .u32 0, .int .i64 0] 31) ∧ w4.heap[w.heap.size + 1]? = some (.cells #[(lvF .nil ((path m a).take 0)).ptr] 48) ∧ w4.heap[w.heap.size + 2]? = some (.cells #[m.ptr] 48) ∧ w4.heap[w.heap.size + 3]? = some (.cells #[.int .u32 (a : Int)] 29)) :=
    ⟨by omega, b04, r0, r1, r2, r3⟩
  have HS4 := hid hs4
  have HL := hid hL
  have HWF : Hid (WF top.x (top.x + top.s) m.tr) := by unfold Hid; rw [hmt]; exact hwf
  have HMT := hid hmt
  rw [hmp] at t0 HHD
  have HMP := hid hmp
  clear hw1 hw2 hw3 hw4 hs1 hs2 hs3 hs4 b1 b2 b3 b4 b02 b04 r0 r1 r2 r3 hrow hL hwf hlt hmem hmp hmt
  refine (callsIn_wide (n := 9)).1 ?_
  refine callsIn_of_wp_marks Try.func15 rfl trivial ?_ rfl
  refine wpIn_wide.2 ?_
  simp only [Try.ntmps15, List.size_toArray, List.length_cons, List.length_nil, Nat.reduceAdd, Nat.reduceSub, Array.replicate_succ, Array.replicate_zero, List.push_toArray, List.append_toArray, List.nil_append, List.cons_append]
  go_upto_region 2 with fail
  rw [← HW2.out]
  go_wp2_with fail
  refine HHD.out.mono ?_
  rintro _ _ ⟨rfl, ew⟩
  obtain rfl := ew.symm
  go_wp2_with fail
  refine wpIn_wide.1 (wpIn_gives (n := 9) (F := Fence.wide) rfl (by omega) (gf := 39) (lb := #[.pointer (some ⟨w.heap.size + 2, 0, none⟩), .pointer (some ⟨w.heap.size + 2 + 1, 0, none⟩)]) rfl trivial (enters_of Try.func39 (by kernel_rfl) rfl)
    (holding_gives 8 (by omega) X (w.heap.size + 2) (w.heap.size + 2 + 1) m a HWF.out) (fun _ => rfl)
    (fun k W => w.heap.size + 4 ≤ W.heap.size ∧ Below w.heap.size w W ∧ W.heap[w.heap.size]? = some (.cells #[.int .u32 0, .int .i64 0] 31) ∧ W.heap[w.heap.size + 1]? = some (.cells #[(lvF .nil ((path m a).take k)).ptr] 48) ∧ W.heap[w.heap.size + 2]? = some (.cells #[m.ptr] 48) ∧ W.heap[w.heap.size + 3]? = some (.cells #[.int .u32 (a : Int)] 29)) ?hI ?hF ?h0
    (fun q => { tmps := #[.pointer (some ⟨tb, 0, none⟩), .int .u32 (a : Int), undef, undef, .pointer (some ⟨w.heap.size, 0, none⟩), .int .i64 0, .int .i64 0, .pointer (some ⟨w.heap.size + 1, 0, none⟩), q.ptr, undef, .pointer (some ⟨tb, 0, none⟩), .pointer (some ⟨tb, 0, none⟩), .pointer (some ⟨tb, 0, none⟩), .pointer mp, .int .u32 (a : Int), .func (.func 39) #[] #[.pointer (some ⟨w.heap.size + 2, 0, none⟩), .pointer (some ⟨w.heap.size + 2 + 1, 0, none⟩)], q.ptr, undef, undef, undef, undef, undef, undef, undef, undef, undef, undef, undef, undef, undef, undef, undef, undef, undef, undef, undef, undef], defers := [] }) ?assign ?body ?done)
  case hI =>
    rw [HS4.out]
    refine ownFrom_below' (fun k W hi => hi.1) ?_
    rintro k W W' ⟨i1, i2, i3, i4, i5, i6⟩ hb
    exact ⟨Nat.le_trans i1 hb.size, i2.trans (hb.mono (by omega)), below_keeps hb i3 (by omega), below_keeps hb i4 (by omega), below_keeps hb i5 (by omega), below_keeps hb i6 (by omega)⟩
  case hF =>
    rintro k W ⟨i1, i2, i3, i4, i5, i6⟩
    exact ⟨i5, i6, HL.out.below i2⟩
  case h0 => exact HI0.out
  case assign =>
    intro l x W K hK
    obtain ⟨xp, hxp⟩ := ptr_is x
    rw [hxp] at hK ⊢
    gi_wp2
    exact hK
  case body =>
    rintro l k x W ⟨i1, i2, i3, i4, i5, i6⟩ hx
    obtain ⟨⟨b, c, kk, u, lt, rt, rfl⟩, hxl⟩ := path_node (List.mem_of_getElem? hx)
    obtain ⟨_, hrow, _, _, _⟩ := hxl _ _ (HL.out.below i2)
    have HTK := hid (take_snoc hx)
    cases u with
    | none =>
      have n2 : W.cell? ⟨b, 2, none⟩ = some (.pointer none) := by rw [cell_of_row _ _ _ _ _ _ hrow]; rfl
      have HFIN : Hid (KeepsFrom w4.heap.size W W ∧ w.heap.size + 4 ≤ W.heap.size ∧ Below w.heap.size w W ∧ W.heap[w.heap.size]? = some (.cells #[.int .u32 0, .int .i64 0] 31) ∧ W.heap[w.heap.size + 1]? = some (.cells #[(lvF .nil ((path m a).take (k + 1))).ptr] 48) ∧ W.heap[w.heap.size + 2]? = some (.cells #[m.ptr] 48) ∧ W.heap[w.heap.size + 3]? = some (.cells #[.int .u32 (a : Int)] 29)) := by
        refine ⟨KeepsFrom.refl _ _, i1, i2, i3, ?_, i5, i6⟩
        rw [HTK.out, lvF_snoc]
        exact i4
      clear hrow i1 i2 i3 i4 i5 i6 hx hxl
      rw [show (MT.node b c kk none lt rt).ptr = .pointer (some ⟨b, 0, none⟩) from rfl]
      gi_wp2
      exact HFIN.out
    | some v =>
      have n2 : W.cell? ⟨b, 2, none⟩ = some (.pointer (some ⟨c, 0, none⟩)) := by rw [cell_of_row _ _ _ _ _ _ hrow]; rfl
      obtain ⟨lp, hlp⟩ := ptr_is (lvF .nil ((path m a).take k))
      have hc : W.cell? ⟨w.heap.size + 1, 0, none⟩ = some (.pointer lp) := by rw [← hlp, cell_of_row _ _ _ _ _ _ i4]; rfl
      have hf : W.frozen? ⟨w.heap.size + 1, 0, none⟩ = false := frozen_of_row _ _ _ _ _ i4
      obtain ⟨W2, hW2⟩ : ∃ W2, W2 = W.setCell ⟨w.heap.size + 1, 0, none⟩ (.pointer (some ⟨b, 0, none⟩)) := ⟨_, rfl⟩
      have hbt : But (w.heap.size + 1) W W2 := by rw [hW2]; exact But.set _ _ _ _
      have HFIN : Hid (KeepsFrom w4.heap.size W W2 ∧ w.heap.size + 4 ≤ W2.heap.size ∧ Below w.heap.size w W2 ∧ W2.heap[w.heap.size]? = some (.cells #[.int .u32 0, .int .i64 0] 31) ∧ W2.heap[w.heap.size + 1]? = some (.cells #[(lvF .nil ((path m a).take (k + 1))).ptr] 48) ∧ W2.heap[w.heap.size + 2]? = some (.cells #[m.ptr] 48) ∧ W2.heap[w.heap.size + 3]? = some (.cells #[.int .u32 (a : Int)] 29)) := by
        refine ⟨by rw [hW2]; exact (KeepsOthers.setCell _ _ _).from _, Nat.le_trans i1 hbt.size, hbt.below i2 (by omega) (by omega), (hbt.block _ (by omega) (by omega)).trans i3, ?_, (hbt.block _ (by omega) (by omega)).trans i5, (hbt.block _ (by omega) (by omega)).trans i6⟩
        rw [HTK.out, lvF_snoc, hW2, set_row i4]
        rfl
      have HW2' := hid hW2
      clear hrow i1 i2 i3 i4 i5 i6 hx hxl hbt hW2 hlp
      rw [show (MT.node b c kk (some v) lt rt).ptr = .pointer (some ⟨b, 0, none⟩) from rfl]
      gi_wp2
      rw [← HW2'.out]
      exact HFIN.out
  case done =>
    rintro D W hD ⟨i1, i2, i3, i4, i5, i6⟩ hK
    rw [List.take_length] at i4
    have HKD := hid hK
    have HDD := hid hD
    have HI1 := hid i1
    have HI2 := hid i2
    have HI3 := hid i3
    have f0 : W.frozen? ⟨w.heap.size, 0, none⟩ = false := frozen_of_row _ _ _ _ _ i3
    have f1 : W.frozen? ⟨w.heap.size, 1, none⟩ = false := frozen_of_row _ _ _ _ _ i3
    have c0 : W.cell? ⟨w.heap.size, 0, none⟩ = some (.int .u32 0) := by rw [cell_of_row _ _ _ _ _ _ i3]; rfl
    have c1 : W.cell? ⟨w.heap.size, 1, none⟩ = some (.int .i64 0) := by rw [cell_of_row _ _ _ _ _ _ i3]; rfl
    rcases lv_find m a .nil with ⟨h1, h2⟩ | ⟨b, c, k, v, l, r, h1, h2, h3⟩
    · rw [h2] at i4
      have y0 : W.cell? ⟨w.heap.size + 1, 0, none⟩ = some (.pointer none) := by rw [cell_of_row _ _ _ _ _ _ i4]; rfl
      have HFV : Hid (findV (find t a) = .tuple #[.agg #[.int .u32 0, .int .i64 0], .int .i64 0, .int .i64 3]) := by unfold Hid; rw [← HMT.out, h1]; rfl
      clear i1 i2 i3 i4 i5 i6 hK hD h1 h2
      go_wp2_with fail
      obtain ⟨W2, hW2⟩ : ∃ W2, W2 = (W.setCell ⟨w.heap.size, 0, none⟩ (.int .u32 0)).setCell ⟨w.heap.size, 1, none⟩ (.int .i64 0) := ⟨_, rfl⟩
      rw [← hW2]
      have r4 : W2.heap[w.heap.size]? = some (.cells #[.int .u32 0, .int .i64 0] 31) := by rw [hW2]; exact set_two' HI3.out
      have hbt : But w.heap.size W W2 := by rw [hW2]; exact (But.set _ 0 _ _).trans (But.set _ 1 _ _)
      have hKz : W2.heap[D]? = some (.deferred (some [])) := (hbt.block D (Array.getElem?_eq_some_iff.1 HKD.out).1 (by have := HDD.out; have := HS4.out; omega)).trans HKD.out
      have hbz : Below w.heap.size w W2 := hbt.below HI2.out (by have := HI1.out; omega) (Nat.le_refl _)
      have hbf : Below w.heap.size w (W2.putObj D (.deferred none)) := hbz.trans (belowK_b (w := w) (Nat.le_refl _) W2 D _ _ (by have := HDD.out; have := HS4.out; omega) hKz rfl rfl)
      have rz : (W2.putObj D (.deferred none)).heap[w.heap.size]? = some (.cells #[.int .u32 0, .int .i64 0] 31) := (World.putObj_heap_other (by have := HDD.out; have := HS4.out; omega)).trans r4
      have g0 : (W2.putObj D (.deferred none)).cell? ⟨w.heap.size, 0, none⟩ = some (.int .u32 0) := by rw [cell_of_row _ _ _ _ _ _ rz]; rfl
      have g1 : (W2.putObj D (.deferred none)).cell? ⟨w.heap.size, 1, none⟩ = some (.int .i64 0) := by rw [cell_of_row _ _ _ _ _ _ rz]; rfl
      refine ⟨by simp, .inl ⟨_, _, rfl, run_takeDeferred hKz, ?_⟩⟩
      refine ⟨_, (by simp [results, Try.results15, go_sem, g0, g1]; rfl), ?_, hbf⟩
      rw [HFV.out]
    · rw [h2] at i4
      obtain ⟨_, hrow, hbox, _, _⟩ := h3 _ _ (HL.out.below i2)
      have y0 : W.cell? ⟨w.heap.size + 1, 0, none⟩ = some (.pointer (some ⟨b, 0, none⟩)) := by rw [cell_of_row _ _ _ _ _ _ i4]; rfl
      have n0 : W.cell? ⟨b, 0, none⟩ = some (.int .u32 (k.x : Int)) := by rw [cell_of_row _ _ _ _ _ _ hrow]; rfl
      have n1 : W.cell? ⟨b, 1, none⟩ = some (.int .i64 (k.n : Int)) := by rw [cell_of_row _ _ _ _ _ _ hrow]; rfl
      have n2 : W.cell? ⟨b, 2, none⟩ = some (.pointer (some ⟨c, 0, none⟩)) := by rw [cell_of_row _ _ _ _ _ _ hrow]; rfl
      have v0 : W.cell? ⟨c, 0, none⟩ = some (.int .i64 v) := by rw [cell_of_row _ _ _ _ _ _ (hbox v rfl).2]; rfl
      have HFV : Hid (findV (find t a) = .tuple #[.agg #[.int .u32 (k.x : Int), .int .i64 (k.n : Int)], .int .i64 v, .int .i64 0]) := by unfold Hid; rw [← HMT.out, h1]; rfl
      have HBL : Hid (b ≠ w.heap.size) := fun e => by rw [e, i3] at hrow; injection hrow with hrow; injection hrow with _ q; exact absurd q (by decide)
      have HCL : Hid (c ≠ w.heap.size) := fun e => by have q := (hbox v rfl).2; rw [e, i3] at q; injection q with q; injection q with _ q; exact absurd q (by decide)
      clear i1 i2 i3 i4 i5 i6 hK hD h1 h2 h3 hrow hbox
      go_upto_region 9 with fail
      refine wp_region_all' 13 dstZ (FZ [.pointer (some ⟨b, 0, none⟩), .pointer (some ⟨b, 0, none⟩), .pointer (some ⟨b, 0, none⟩), .agg #[.int .u32 (k.x : Int), .int .i64 (k.n : Int)], .pointer (some ⟨b, 0, none⟩), .pointer (some ⟨b, 0, none⟩), .pointer (some ⟨b, 2, none⟩), .pointer (some ⟨c, 0, none⟩), .pointer (some ⟨c, 0, none⟩), .int .i64 v, undef, .int .i64 v, .int .i64 0] w.heap.size #[.int .u32 (k.x : Int), .int .i64 (k.n : Int)]) (IZ W w.heap.size) (RZ w.heap.size) (by kernel_rfl) (by kernel_rfl) ⟨⟨rfl, rfl, rfl, Nat.le_refl _, fun _ _ _ => rfl⟩, _, _, HI3.out⟩ (FZ.keeps _ _ _ _ _) ?_ ?_
      · simp only [N.stepsAll]
        refine ⟨?_, ?_, ?_, ?_, ?_, ?_, ?_, ?_, ?_, ?_, ?_, ?_, ?_, trivial⟩
        · intro a' u vs hI hold hdep
          exact wp_stillZ (ex_load _ ⟨w.heap.size + 1, 0, none⟩ (.tmp 7) _ rfl (hold 7 (dlZ (by decide))) (load_nd (by rw [World.cell?_of_block (hI.1.block _ (World.block_lt_of_cell? _ _ y0) (by show w.heap.size + 1 ≠ w.heap.size; omega))]; exact y0))) rfl rfl (by decide) hI
        · intro a' u vs hI hold hdep
          have e : a'.eval (.tmp 27) = .pointer (some ⟨b, 0, none⟩) := by have h0 := hdep ⟨0, .data⟩ (by simp) rfl; exact (h0.2 27 rfl).trans (Option.some.inj h0.1.1).symm
          exact wp_stillZ (ex_nil _ (.tmp 27) rfl e) rfl rfl (by decide) hI
        · intro a' u vs hI hold hdep
          have e : a'.eval (.tmp 28) = .pointer (some ⟨b, 0, none⟩) := by have h0 := hdep ⟨1, .data⟩ (by simp) rfl; exact (h0.2 28 rfl).trans (Option.some.inj h0.1.1).symm
          exact wp_stillZ (ex_field _ _ (.tmp 28) 0 _ rfl e (fld_nd u).1) rfl rfl (by decide) hI
        · intro a' u vs hI hold hdep
          have e : a'.eval (.tmp 29) = .pointer (some ⟨b, 0, none⟩) := by have h0 := hdep ⟨2, .data⟩ (by simp) rfl; exact (h0.2 29 rfl).trans (Option.some.inj h0.1.1).symm
          exact wp_stillZ (ex_load _ ⟨b, 0, none⟩ (.tmp 29) _ rfl e (load_pre (by rw [World.cell?_of_block (hI.1.block _ (World.block_lt_of_cell? _ _ n0) (by have := HBL.out; show b ≠ w.heap.size; omega))]; exact n0) (by rw [World.cell?_of_block (hI.1.block _ (World.block_lt_of_cell? _ _ n1) (by have := HBL.out; show b ≠ w.heap.size; omega))]; exact n1))) rfl rfl (by decide) hI
        · intro a' u vs hI hold hdep
          exact wp_stillZ (ex_load _ ⟨w.heap.size + 1, 0, none⟩ (.tmp 7) _ rfl (hold 7 (dlZ (by decide))) (load_nd (by rw [World.cell?_of_block (hI.1.block _ (World.block_lt_of_cell? _ _ y0) (by show w.heap.size + 1 ≠ w.heap.size; omega))]; exact y0))) rfl rfl (by decide) hI
        · intro a' u vs hI hold hdep
          have e : a'.eval (.tmp 31) = .pointer (some ⟨b, 0, none⟩) := by have h0 := hdep ⟨4, .data⟩ (by simp) rfl; exact (h0.2 31 rfl).trans (Option.some.inj h0.1.1).symm
          exact wp_stillZ (ex_nil _ (.tmp 31) rfl e) rfl rfl (by decide) hI
        · intro a' u vs hI hold hdep
          have e : a'.eval (.tmp 32) = .pointer (some ⟨b, 0, none⟩) := by have h0 := hdep ⟨5, .data⟩ (by simp) rfl; exact (h0.2 32 rfl).trans (Option.some.inj h0.1.1).symm
          exact wp_stillZ (ex_field _ _ (.tmp 32) 1 _ rfl e (fld_nd u).2.1) rfl rfl (by decide) hI
        · intro a' u vs hI hold hdep
          have e : a'.eval (.tmp 33) = .pointer (some ⟨b, 2, none⟩) := by have h0 := hdep ⟨6, .data⟩ (by simp) rfl; exact (h0.2 33 rfl).trans (Option.some.inj h0.1.1).symm
          exact wp_stillZ (ex_load _ ⟨b, 2, none⟩ (.tmp 33) _ rfl e (load_vp (by rw [World.cell?_of_block (hI.1.block _ (World.block_lt_of_cell? _ _ n2) (by have := HBL.out; show b ≠ w.heap.size; omega))]; exact n2))) rfl rfl (by decide) hI
        · intro a' u vs hI hold hdep
          have e : a'.eval (.tmp 34) = .pointer (some ⟨c, 0, none⟩) := by have h0 := hdep ⟨7, .data⟩ (by simp) rfl; exact (h0.2 34 rfl).trans (Option.some.inj h0.1.1).symm
          exact wp_stillZ (ex_nil _ (.tmp 34) rfl e) rfl rfl (by decide) hI
        · intro a' u vs hI hold hdep
          have e : a'.eval (.tmp 35) = .pointer (some ⟨c, 0, none⟩) := by have h0 := hdep ⟨8, .data⟩ (by simp) rfl; exact (h0.2 35 rfl).trans (Option.some.inj h0.1.1).symm
          exact wp_stillZ (ex_load _ ⟨c, 0, none⟩ (.tmp 35) _ rfl e (load_in (by rw [World.cell?_of_block (hI.1.block _ (World.block_lt_of_cell? _ _ v0) (by have := HCL.out; show c ≠ w.heap.size; omega))]; exact v0))) rfl rfl (by decide) hI
        · intro a' u vs hI hold hdep
          have e : a'.eval (.tmp 30) = .agg #[.int .u32 (k.x : Int), .int .i64 (k.n : Int)] := by have h0 := hdep ⟨3, .data⟩ (by simp) rfl; exact (h0.2 30 rfl).trans (Option.some.inj h0.1.1).symm
          obtain ⟨hbI, x, y, hxy⟩ := hI
          refine wp_store_row 31 (.tmp 4) (.tmp 30) rfl w.heap.size #[.int .u32 (k.x : Int), .int .i64 (k.n : Int)] (hold 4 (dlZ (by decide))) e _ _ hxy (by kernel_rfl) rfl (by simp [Value.oneCell']) ?_
          have hbt := But.setRow w.heap.size u #[.int .u32 (k.x : Int), .int .i64 (k.n : Int)]
          have hr := setRow_heap u w.heap.size _ #[.int .u32 (k.x : Int), .int .i64 (k.n : Int)] _ _ hxy
          exact ⟨undef, rfl, ⟨by rw [upd_eq]; rfl, fun _ => hr⟩, ⟨hbI.trans hbt, _, _, hr⟩, by unfold RZ; rw [if_pos rfl]; exact hbt⟩
        · intro a' u vs hI hold hdep
          have e : a'.eval (.tmp 36) = .int .i64 v := by have h0 := hdep ⟨9, .data⟩ (by simp) rfl; exact (h0.2 36 rfl).trans (Option.some.inj h0.1.1).symm
          exact wp_stillZ (ex_assign (.tmp 36) _ rfl e) rfl rfl (by decide) hI
        · intro a' u vs hI hold hdep
          exact wp_stillZ (ex_assign (.const (.int .i64 0)) _ rfl rfl) rfl rfl (by decide) hI
      intro vs W2 hI hF
      have e5 : vs 11 = .int .i64 v := (Option.some.inj (hF 11 (by decide)).1).symm
      have e6 : vs 12 = .int .i64 0 := (Option.some.inj (hF 12 (by decide)).1).symm
      have r4 : W2.heap[w.heap.size]? = some (.cells #[.int .u32 (k.x : Int), .int .i64 (k.n : Int)] 31) := (hF 10 (by decide)).2 rfl
      have hbt : But w.heap.size W W2 := hI.1
      clear hF hI
      simp only [putsO, List.range, List.range.loop, List.foldr, if_true, dstZ, List.getD_cons_zero, List.getD_cons_succ, Act.put, e5, e6, List.setIfInBounds_toArray, List.set_cons_succ, List.set_cons_zero]
      generalize vs 0 = z0
      generalize vs 1 = z1
      generalize vs 2 = z2
      generalize vs 3 = z3
      generalize vs 4 = z4
      generalize vs 5 = z5
      generalize vs 6 = z6
      generalize vs 7 = z7
      generalize vs 8 = z8
      generalize vs 9 = z9
      generalize vs 10 = z10
      go_wp2_with fail
      have hKz : W2.heap[D]? = some (.deferred (some [])) := (hbt.block D (Array.getElem?_eq_some_iff.1 HKD.out).1 (by have := HDD.out; have := HS4.out; omega)).trans HKD.out
      have hbz : Below w.heap.size w W2 := hbt.below HI2.out (by have := HI1.out; omega) (Nat.le_refl _)
      have hbf : Below w.heap.size w (W2.putObj D (.deferred none)) := hbz.trans (belowK_b (w := w) (Nat.le_refl _) W2 D _ _ (by have := HDD.out; have := HS4.out; omega) hKz rfl rfl)
      have rz : (W2.putObj D (.deferred none)).heap[w.heap.size]? = some (.cells #[.int .u32 (k.x : Int), .int .i64 (k.n : Int)] 31) := (World.putObj_heap_other (by have := HDD.out; have := HS4.out; omega)).trans r4
      have g0 : (W2.putObj D (.deferred none)).cell? ⟨w.heap.size, 0, none⟩ = some (.int .u32 (k.x : Int)) := by rw [cell_of_row _ _ _ _ _ _ rz]; rfl
      have g1 : (W2.putObj D (.deferred none)).cell? ⟨w.heap.size, 1, none⟩ = some (.int .i64 (k.n : Int)) := by rw [cell_of_row _ _ _ _ _ _ rz]; rfl
      refine ⟨by simp, .inl ⟨_, _, rfl, run_takeDeferred hKz, ?_⟩⟩
      refine ⟨_, (by simp [results, Try.results15, go_sem, g0, g1]; rfl), ?_, hbf⟩
      rw [HFV.out]
end Go.Proofs.Ytmnafocmbcgdiab
