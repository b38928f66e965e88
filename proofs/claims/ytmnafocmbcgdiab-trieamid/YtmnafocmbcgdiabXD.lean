/-
  trie.Within's iterator.
-/
import Derived.Test.YtmnafocmbcgdiabXC
import Derived.Test.YtmnafocmbcgdiabVRG
namespace Go.Proofs.Ytmnafocmbcgdiab
open Go.ChangeShapes Go.WideShapes Go.ChangeAt Go.RowKit Go.Shelf Tri N
attribute [local go_sem] Oper.semAt_some
set_option maxHeartbeats 4000000
set_option maxRecDepth 100000

theorem below_new (q : MT) (w : World) :
    Calls Try.prog 42 #[q.ptr] w fun e w' => e = .returned (.func (.func 57) #[] #[.pointer (some ⟨w.heap.size, 0, none⟩)]) ∧ w' = w.alloc (.cells #[q.ptr] 48) := by
  obtain ⟨mp, hmp⟩ := ptr_is q
  rw [hmp]
  go_enter Try.func42, Try.ntmps42
  go_wp2_with fail
  go_ret
  exact ⟨rfl, rfl⟩

/-- How many of the first k have a value. -/
def cnt (L : List MT) (k : Nat) : Nat := ((L.take k).filterMap MT.ent).length

theorem cnt_zero (L : List MT) : cnt L 0 = 0 := by simp [cnt]
theorem cnt_all (L : List MT) : cnt L L.length = (L.filterMap MT.ent).length := by simp [cnt]
theorem cnt_none {L : List MT} {k : Nat} {x : MT} (h : L[k]? = some x) (hx : x.ent = none) : cnt L (k + 1) = cnt L k := by
  unfold cnt
  rw [take_snoc h, List.filterMap_append]
  simp [hx]
theorem cnt_some {L : List MT} {k : Nat} {x : MT} {e : K × Int} (h : L[k]? = some x) (hx : x.ent = some e) : cnt L (k + 1) = cnt L k + 1 := by
  unfold cnt
  rw [take_snoc h, List.filterMap_append]
  simp [hx]
theorem cnt_at {L : List MT} {k : Nat} {x : MT} {e : K × Int} (h : L[k]? = some x) (hx : x.ent = some e) : (L.filterMap MT.ent)[cnt L k]? = some e := by
  have hs : L = L.take k ++ x :: L.drop (k + 1) := by
    have hlt := (List.getElem?_eq_some_iff.1 h).1
    have he := (List.getElem?_eq_some_iff.1 h).2
    rw [← he, ← List.drop_eq_getElem_cons hlt, List.take_append_drop]
  have e1 : L.filterMap MT.ent = (L.take k).filterMap MT.ent ++ e :: (L.drop (k + 1)).filterMap MT.ent := by
    conv => lhs; rw [hs]
    rw [List.filterMap_append, List.filterMap_cons_some hx]
  rw [e1]
  unfold cnt
  rw [List.getElem?_append_right (Nat.le_refl _), Nat.sub_self]
  rfl

/-- What Within$1's second region reads and makes. -/
def FW (tb : Nat) (mp : Value) (p : K) (q : MT) (B : Nat) (i : Nat) (x : Value) (u : World) : Prop :=
  match i with
  | 0 => x = .pointer (some ⟨tb, 0, none⟩)
  | 1 => x = .pointer (some ⟨tb, 0, none⟩)
  | 2 => x = .pointer (some ⟨tb, 0, none⟩)
  | 3 => x = mp
  | 4 => x = pv p
  | 5 => x = q.ptr
  | _ => ∃ b, x = .func (.func 57) #[] #[.pointer (some ⟨b, 0, none⟩)] ∧ B ≤ b ∧ u.heap[b]? = some (.cells #[q.ptr] 48)

theorem FW.keeps (tb : Nat) (mp : Value) (p : K) (q : MT) (B : Nat) : ∀ (i : Nat) (x : Value) (w w' : World), FW tb mp p q B i x w → Below w.heap.size w w' → FW tb mp p q B i x w' := fun i x w w' h hb => by
  match i with
  | 0 | 1 | 2 | 3 | 4 | 5 => exact h
  | n + 6 => obtain ⟨g, h1, h2, h3⟩ := h; exact ⟨g, h1, h2, below_keeps hb h3 (Array.getElem?_eq_some_iff.1 h3).1⟩

/-- The blocks of a Within. -/
structure WiB (W : World) (pbx tbx tb : Nat) (p : K) (m : MT) : Prop where
  pb : W.heap[pbx]? = some (.cells #[.int .u32 (p.x : Int), .int .i64 (p.n : Int)] 31)
  tx : W.heap[tbx]? = some (.cells #[.pointer (some ⟨tb, 0, none⟩)] 24)
  rt : W.heap[tb]? = some (.cells #[m.ptr] 50)

theorem WiB.below {W W' : World} {pbx tbx tb : Nat} {p : K} {m : MT} (h : WiB W pbx tbx tb p m) (hb : Below W.heap.size W W') : WiB W' pbx tbx tb p m :=
  ⟨below_keeps hb h.pb (Array.getElem?_eq_some_iff.1 h.pb).1, below_keeps hb h.tx (Array.getElem?_eq_some_iff.1 h.tx).1, below_keeps hb h.rt (Array.getElem?_eq_some_iff.1 h.rt).1⟩

theorem load_tp {u : World} {p : Addr} {x : Option Addr} (h : u.cell? p = some (.pointer x)) : (Instr.loadAt 24 (.pointer (some p))).run Try.prog u = .ok (.pointer x) u := by
  simp [go_sem, h]

/-- The values that are known. -/
def FL (l : List (Option Value)) (i : Nat) (v : Value) (_ : World) : Prop := ∀ x, l[i]? = some (some x) → v = x

theorem load_yd {u : World} {p : Addr} {f : Fn} {a b : Array Value} (h : u.cell? p = some (.func f a b)) : (Instr.loadAt 93 (.pointer (some p))).run Try.prog u = .ok (.func f a b) u := by
  simp [go_sem, h]

theorem ex_neqP {o : Oper} {a : Act} {w : World} (x : Operand) (p : Option Addr) (ho : o.op = .binOp .neq 53 x (.const (.pointer none)) 53) (hx : a.eval x = .pointer p) : (execOp a.eval o).run Try.prog w = .ok (.value (.bool p.isSome)) w := by
  have h0 : a.eval (.const (.pointer none)) = .pointer none := rfl
  simp only [execOp, ho, hx, h0]
  cases p <;> simp [eqGuard, go_sem]

theorem pre_node {m q : MT} (h : q ∈ pre m) : (∃ b c k u l r, q = .node b c k u l r) ∧ ∀ W X, Lies W X m → Lies W X q := by
  induction m with
  | nil => cases h
  | node b c k u l r il ir =>
    rw [pre] at h
    rcases List.mem_cons.1 h with h | h
    · exact ⟨⟨b, c, k, u, l, r, h⟩, fun W X hL => by rw [h]; exact hL⟩
    · rcases List.mem_append.1 h with h | h
      · exact ⟨(il h).1, fun W X hL => (il h).2 W X hL.2.2.2.1⟩
      · exact ⟨(ir h).1, fun W X hL => (ir h).2 W X hL.2.2.2.2⟩

theorem within_gives (n : Nat) (hn : 4 ≤ n) (X : Nat → Prop) (pbx tbx tb : Nat) (m : MT) (p : K) (hp : p.Ok) {lo hi : Nat} (hwf : WF lo hi m.tr) (hm : nodes m.tr ≤ 10000000000) :
    GivesN Fence.wide n Try.prog 41 #[.pointer (some ⟨pbx, 0, none⟩), .pointer (some ⟨tbx, 0, none⟩)] (fun e : K × Int => #[pv e.1, .int .i64 e.2]) ((ents m.tr).filter (inP p)) (fun k W => Lies W X m ∧ (k = 0 → WiB W pbx tbx tb p m)) := by
  intro l J Z W hJ hZ hJF hY h0
  obtain ⟨q, hq⟩ : ∃ q, q = hiT m p := ⟨_, rfl⟩
  have hxs : (ents m.tr).filter (inP p) = (pre q).filterMap MT.ent := by rw [pre_ents, hq, hiT_ents hp m hwf]
  have hnq : nodes q.tr ≤ 10000000000 := by rw [hq]; exact Nat.le_trans (hiT_nodes m) hm
  rw [hxs] at hY ⊢
  obtain ⟨W1, HW1⟩ : ∃ W1, Hid (W1 = W.alloc (.cells #[.func (.yield l) #[] #[]] 93)) := ⟨_, rfl⟩
  have hb1 : Below W.heap.size W W1 := by rw [HW1.out]; exact (Below.refl _ _).alloc (Nat.le_refl _) _
  have hs1 : W1.heap.size = W.heap.size + 1 := by rw [HW1.out]; simp
  have ry : W1.heap[W.heap.size]? = some (.cells #[.func (.yield l) #[] #[]] 93) := by rw [HW1.out]; exact heap_alloc_new W _
  have hF0 := hJF _ _ h0
  have hwb := (hF0.2 rfl).below hb1
  have x0 : W1.cell? ⟨pbx, 0, none⟩ = some (.int .u32 (p.x : Int)) := by rw [cell_of_row _ _ _ _ _ _ hwb.pb]; rfl
  have x1 : W1.cell? ⟨pbx, 1, none⟩ = some (.int .i64 (p.n : Int)) := by rw [cell_of_row _ _ _ _ _ _ hwb.pb]; rfl
  have HV := hid (valid_ok W1 hp)
  have HWB := hid hwb
  have HB1 := hid hb1
  have HS1 := hid hs1
  have RY := hid ry
  have HJ := hid hJ
  have HZ := hid hZ
  have HJF := hid hJF
  have HY := hid hY
  have HWF := hid hwf
  have HP := hid hp
  have HQ := hid hq
  have HNQ := hid hnq
  have HJ1 : Hid (J 0 W1) := hJ.below h0 hb1
  have HL1 : Hid (Lies W1 X m) := hF0.1.below hb1
  unfold pv at HV
  clear hJ hZ hJF hY h0 hF0 hwb hb1 hs1 ry hwf hp hq hnq hm hxs
  refine callsIn_of_wp_marks Try.func41 rfl trivial ?_ rfl
  refine wpIn_wide.2 ?_
  simp only [Try.ntmps41, List.size_toArray, List.length_cons, List.length_nil, Nat.reduceAdd, Nat.reduceSub, Array.replicate_succ, Array.replicate_zero, List.push_toArray, List.append_toArray, List.nil_append, List.cons_append]
  go_upto_region 1 with fail
  rw [← HW1.out]
  go_wp2_with fail
  refine HV.out.mono ?_
  rintro _ W2 ⟨rfl, hb2⟩
  have HB2 := hid hb2
  have HWB2 := hid (HWB.out.below hb2)
  have HL2 := hid (HL1.out.below hb2)
  obtain ⟨mp, hmp⟩ := ptr_is m
  have HMP := hid hmp
  clear x0 x1 hb2 hmp
  go_upto_region 2 with fail
  refine wp_region_mono' 6 (fun i => 8 + i) (FW tb (.pointer mp) p q W2.heap.size) (by kernel_rfl) (by kernel_rfl) (FW.keeps _ _ _ _ _) ?_ ?_
  · simp only [List.take_succ_cons, List.take_zero, N.stepsOk]
    refine ⟨?_, ?_, ?_, ?_, ?_, ?_, trivial⟩
    · intro a u vs hb hold hdep
      have hr := (HWB2.out.below hb).tx
      exact wp_val (ex_load _ ⟨tbx, 0, none⟩ (.tmp 2) _ rfl (hold 2 (fun j hj => low (by decide))) (load_tp (by rw [cell_of_row _ _ _ _ _ _ hr]; rfl))) ⟨_, rfl, rfl, hb, Below.refl _ _⟩
    · intro a u vs hb hold hdep
      have h0 := hdep ⟨0, .data⟩ (by simp) rfl (by decide)
      exact wp_val (ex_nil ⟨tb, 0, none⟩ (.tmp 8) rfl (h0.1.trans h0.2)) ⟨_, rfl, rfl, hb, Below.refl _ _⟩
    · intro a u vs hb hold hdep
      have h0 := hdep ⟨1, .data⟩ (by simp) rfl (by decide)
      exact wp_val (ex_field _ ⟨tb, 0, none⟩ (.tmp 9) 0 _ rfl (h0.1.trans h0.2) (fld_tr u)) ⟨_, rfl, rfl, hb, Below.refl _ _⟩
    · intro a u vs hb hold hdep
      have h0 := hdep ⟨2, .data⟩ (by simp) rfl (by decide)
      have hr := (HWB2.out.below hb).rt
      exact wp_val (ex_load _ ⟨tb, 0, none⟩ (.tmp 10) _ rfl (h0.1.trans h0.2) (load_nd (by rw [cell_of_row _ _ _ _ _ _ hr, ← HMP.out]; rfl))) ⟨_, rfl, rfl, hb, Below.refl _ _⟩
    · intro a u vs hb hold hdep
      have hr := (HWB2.out.below hb).pb
      exact wp_val (ex_load _ ⟨pbx, 0, none⟩ (.tmp 1) _ rfl (hold 1 (fun j hj => low (by decide))) (load_pre (x := .int .u32 (p.x : Int)) (y := .int .i64 (p.n : Int)) (by rw [cell_of_row _ _ _ _ _ _ hr]; rfl) (by rw [cell_of_row _ _ _ _ _ _ hr]; rfl))) ⟨_, rfl, rfl, hb, Below.refl _ _⟩
    · intro a u vs hb hold hdep
      have h3 := hdep ⟨3, .data⟩ (by simp) rfl (by decide)
      have h4 := hdep ⟨4, .data⟩ (by simp) rfl (by decide)
      have e3 : a.eval (.tmp 11) = .pointer mp := h3.1.trans h3.2
      have e4 : a.eval (.tmp 12) = pv p := h4.1.trans h4.2
      refine wp_call 43 _ _ rfl (enters_of Try.func43 (by kernel_rfl) rfl) #[.pointer mp, pv p] (by simp only [List.map_toArray, List.map_cons, List.map_nil, e3, e4]) ?_
      rw [← HMP.out]
      refine (highest_any m p u (HL2.out.below hb) HWF.out HP.out).mono ?_
      rintro _ u' ⟨rfl, hb'⟩
      exact ⟨_, rfl, _, rfl, by show (hiT m p).ptr = q.ptr; rw [HQ.out], hb.trans (hb'.mono hb.size), hb'⟩
  intro vs W3 hb3 hF
  have e5 : vs 5 = q.ptr := hF 5 (by decide)
  clear hF
  simp only [List.drop_succ_cons, List.drop_zero, puts, List.range, List.range.loop, List.foldr, Nat.reduceAdd, if_true, e5, Act.put, List.setIfInBounds_toArray, List.set_cons_zero, List.set_cons_succ]
  clear e5
  generalize vs 0 = z0
  generalize vs 1 = z1
  generalize vs 2 = z2
  generalize vs 3 = z3
  generalize vs 4 = z4
  obtain ⟨qp, hqp⟩ := ptr_is q
  have HBN := hid (below_new q W3)
  rw [hqp] at HBN ⊢
  have HQP := hid hqp
  have HB3 := hid hb3
  clear hb3 hqp
  go_wp2_with fail
  refine HBN.out.mono ?_
  rintro _ W4 ⟨rfl, hW4⟩
  have hb4 : Below W3.heap.size W3 W4 := by rw [hW4]; exact (Below.refl _ _).alloc (Nat.le_refl _) _
  have hs4 : W4.heap.size = W3.heap.size + 1 := by rw [hW4]; simp
  have rb : W4.heap[W3.heap.size]? = some (.cells #[.pointer qp] 48) := by rw [hW4]; exact heap_alloc_new W3 _
  have hb24 : Below W1.heap.size W1 W4 := HB2.out.trans ((HB3.out.trans (hb4.mono HB3.out.size)).mono HB2.out.size)
  have HS4 := hid hs4
  have HSZ : Hid (W.heap.size < W3.heap.size) := by
    have h1 := HS1.out
    have h2 := HB2.out.size
    have h3 := HB3.out.size
    unfold Hid; omega
  have HI0 : Hid (J (cnt (pre q) 0) W4) := by unfold Hid; rw [cnt_zero]; exact HJ.out.below HJ1.out hb24
  have HIX : Hid (J (cnt (pre q) 0) W4 ∧ W4.heap[W.heap.size]? = some (.cells #[.func (.yield l) #[] #[]] 93) ∧ W4.heap[W3.heap.size]? = some (.cells #[.pointer qp] 48) ∧ W3.heap.size < W4.heap.size) :=
    ⟨HI0.out, below_keeps hb24 RY.out (by have := HS1.out; omega), rb, by omega⟩
  clear hW4 hb4 hs4 rb hb24
  go_wp2_with fail
  refine wpIn_wide.1 (wpIn_givesU (β := Unit) (n := n) (F := Fence.wide) rfl (by omega) (gf := 57) (lb := #[.pointer (some ⟨W3.heap.size, 0, none⟩)]) rfl trivial (enters_of Try.func57 (by kernel_rfl) rfl)
    (below_gives (n - 1) (by omega) X W3.heap.size q HNQ.out) (fun _ => rfl)
    (fun k V => J (cnt (pre q) k) V ∧ V.heap[W.heap.size]? = some (.cells #[.func (.yield l) #[] #[]] 93) ∧ (k = 0 → V.heap[W3.heap.size]? = some (.cells #[.pointer qp] 48)) ∧ W3.heap.size < V.heap.size)
    (fun c V => c = .ret ∧ Z () V) ?hI ?hIx ?hF ?h0
    (fun x _ t => (t.setIfInBounds 15 x.ptr).setIfInBounds 4 x.ptr) (fun _ _ _ => True) (fun _ _ _ _ _ _ _ _ _ => trivial) ?assign ?body ?done ?stop)
  case hI =>
    rintro k A B row ⟨i1, i2, i3, i4⟩ hg hr
    have hsz := HSZ.out
    have hs4 := HS4.out
    refine ⟨HJ.out _ A B row i1 hg (fun r e => ⟨by have := (hr r e).1; omega, (hr r e).2⟩), ?_, fun hk => ?_, Nat.lt_of_lt_of_le i4 hg.size⟩
    · exact (hg.block _ (by omega) (fun e => by have := (hr _ e.symm).1; omega)).trans i2
    · exact (hg.block _ (by omega) (fun e => by have := (hr _ e.symm).1; omega)).trans (i3 hk)
  case hIx =>
    rintro c A B row ⟨i1, i2⟩ hg hr
    have hsz := HSZ.out
    have hs4 := HS4.out
    exact ⟨i1, HZ.out _ A B row i2 hg (fun r e => ⟨by have := (hr r e).1; omega, (hr r e).2⟩)⟩
  case hF =>
    rintro k V ⟨i1, i2, i3, i4⟩
    refine ⟨by rw [HQ.out]; exact hiT_lies m (HJF.out _ _ i1).1, fun hk => by rw [HQP.out]; exact i3 hk⟩
  case h0 => exact ⟨HIX.out.1, HIX.out.2.1, fun _ => HIX.out.2.2.1, HIX.out.2.2.2⟩
  case assign =>
    intro l2 k x V K hi hx hK
    obtain ⟨xp, hxp⟩ := ptr_is x
    have HK := hK () V (KeepsN.refl _ _) hi trivial
    simp only [hxp, List.setIfInBounds_toArray, List.set_cons_zero, List.set_cons_succ] at HK ⊢
    clear hK hi hx
    gi_wp2
    exact HK
  case body =>
    rintro l2 k x y V hl2 _ ⟨i1, i2, i3, i4⟩ _ hx
    obtain ⟨⟨b, c, kk, u, lt, rt, rfl⟩, hxl⟩ := pre_node (List.mem_of_getElem? hx)
    have hlq : Lies V X q := by rw [HQ.out]; exact hiT_lies m (HJF.out _ _ i1).1
    obtain ⟨_, hrow, hbox, _, _⟩ := hxl _ _ hlq
    have n0 : V.cell? ⟨b, 0, none⟩ = some (.int .u32 (kk.x : Int)) := by rw [cell_of_row _ _ _ _ _ _ hrow]; rfl
    have n1 : V.cell? ⟨b, 1, none⟩ = some (.int .i64 (kk.n : Int)) := by rw [cell_of_row _ _ _ _ _ _ hrow]; rfl
    have y0 : V.cell? ⟨W.heap.size, 0, none⟩ = some (.func (.yield l) #[] #[]) := by rw [cell_of_row _ _ _ _ _ _ i2]; rfl
    simp only [MT.ptr, List.setIfInBounds_toArray, List.set_cons_zero, List.set_cons_succ]
    have hbd : Below V.heap.size V V.drew := ⟨rfl, rfl, rfl, Nat.le_refl _, fun _ _ => rfl⟩
    cases u with
    | none =>
      have n2 : V.cell? ⟨b, 2, none⟩ = some (.pointer none) := by rw [cell_of_row _ _ _ _ _ _ hrow]; rfl
      have HFIN : Hid (KeepsN W4.heap.size V V.drew ∧ J (cnt (pre q) (k + 1)) V.drew ∧ V.drew.heap[W.heap.size]? = some (.cells #[.func (.yield l) #[] #[]] 93) ∧ (k + 1 = 0 → V.drew.heap[W3.heap.size]? = some (.cells #[.pointer qp] 48)) ∧ W3.heap.size < V.drew.heap.size) :=
        ⟨KeepsN.of_below hbd, by rw [cnt_none hx rfl]; exact HJ.out.below i1 hbd, i2, fun h => by omega, i4⟩
      clear hrow hbox i1 i2 i3 i4 hx hxl hlq hbd
      gi_wp2
      refine wpIn_region_guarded' 17 (fun i => 16 + i) (FL [some (.pointer (some ⟨b, 0, none⟩)), some (.pointer (some ⟨b, 0, none⟩)), some (.pointer (some ⟨b, 2, none⟩)), some (.pointer none), some (.bool false), some (.bool false), some undef, some undef, some undef, some undef, some undef, some undef, some undef, some undef, some undef, some undef, some undef]) (fun w => w = V.drew) (fun _ w w' => w' = w) (by kernel_rfl) (by kernel_rfl) rfl (fun _ _ _ _ _ _ h _ _ => h) ?_ ?_
      · simp only [List.take_succ_cons, List.take_zero, N.stepsG]
        refine ⟨?_, ?_, ?_, ?_, ?_, ?_, ?_, ?_, ?_, ?_, ?_, ?_, ?_, ?_, ?_, ?_, ?_, trivial⟩
        · intro a w vs hI hold hdep
          obtain rfl : w = V.drew := hI
          exact opAt_plain rfl (wpIn_val (fun _ h => by cases h) (ex_move (.tmp 4) _ rfl (hold 4 (fun j hj => low (by decide)))) ⟨_, rfl, fun x hx => Option.some.inj (Option.some.inj hx), rfl, rfl⟩)
        · intro a w vs hI hold hdep
          obtain rfl : w = V.drew := hI
          have h0 := hdep ⟨0, .data⟩ (by simp) rfl (by decide)
          have e0 := h0.1.trans (h0.2 _ rfl)
          exact opAt_plain rfl (wpIn_val (fun _ h => by cases h) (ex_nil _ (.tmp 16) rfl e0) ⟨_, rfl, fun x hx => Option.some.inj (Option.some.inj hx), rfl, rfl⟩)
        · intro a w vs hI hold hdep
          obtain rfl : w = V.drew := hI
          have h1 := hdep ⟨1, .data⟩ (by simp) rfl (by decide)
          have e1 := h1.1.trans (h1.2 _ rfl)
          exact opAt_plain rfl (wpIn_val (fun _ h => by cases h) (ex_field _ _ (.tmp 17) 1 _ rfl e1 (fld_nd _).2.1) ⟨_, rfl, fun x hx => Option.some.inj (Option.some.inj hx), rfl, rfl⟩)
        · intro a w vs hI hold hdep
          obtain rfl : w = V.drew := hI
          have h2 := hdep ⟨2, .data⟩ (by simp) rfl (by decide)
          have e2 := h2.1.trans (h2.2 _ rfl)
          exact opAt_plain rfl (wpIn_val (fun _ h => by cases h) (ex_load _ ⟨b, 2, none⟩ (.tmp 18) _ rfl e2 (load_vp n2)) ⟨_, rfl, fun x hx => Option.some.inj (Option.some.inj hx), rfl, rfl⟩)
        · intro a w vs hI hold hdep
          obtain rfl : w = V.drew := hI
          have h3 := hdep ⟨3, .data⟩ (by simp) rfl (by decide)
          have e3 := h3.1.trans (h3.2 _ rfl)
          exact opAt_plain rfl (wpIn_val (fun _ h => by cases h) (ex_neqP (.tmp 19) _ rfl e3) ⟨_, rfl, fun x hx => Option.some.inj (Option.some.inj hx), rfl, rfl⟩)
        · intro a w vs hI hold hdep
          obtain rfl : w = V.drew := hI
          have h4 := hdep ⟨4, .data⟩ (by simp) rfl (by decide)
          have e4 := h4.1.trans (h4.2 _ rfl)
          exact opAt_plain rfl (wpIn_val (fun _ h => by cases h) (ex_move (.tmp 20) _ rfl e4) ⟨_, rfl, fun x hx => Option.some.inj (Option.some.inj hx), rfl, rfl⟩)
        · intro a w vs hI hold hdep
          obtain rfl : w = V.drew := hI
          have hg := hdep ⟨5, .guard⟩ (by simp) rfl (by decide)
          have eg := hg.1.trans (hg.2 _ rfl)
          exact opAt_skip (j := 5) (t := 21) (b := true) rfl rfl eg ⟨undef, rfl, fun x hx => Option.some.inj (Option.some.inj hx), rfl, rfl⟩
        · intro a w vs hI hold hdep
          obtain rfl : w = V.drew := hI
          have hg := hdep ⟨5, .guard⟩ (by simp) rfl (by decide)
          have eg := hg.1.trans (hg.2 _ rfl)
          exact opAt_skip (j := 5) (t := 21) (b := true) rfl rfl eg ⟨undef, rfl, fun x hx => Option.some.inj (Option.some.inj hx), rfl, rfl⟩
        · intro a w vs hI hold hdep
          obtain rfl : w = V.drew := hI
          have hg := hdep ⟨5, .guard⟩ (by simp) rfl (by decide)
          have eg := hg.1.trans (hg.2 _ rfl)
          exact opAt_skip (j := 5) (t := 21) (b := true) rfl rfl eg ⟨undef, rfl, fun x hx => Option.some.inj (Option.some.inj hx), rfl, rfl⟩
        · intro a w vs hI hold hdep
          obtain rfl : w = V.drew := hI
          have hg := hdep ⟨5, .guard⟩ (by simp) rfl (by decide)
          have eg := hg.1.trans (hg.2 _ rfl)
          exact opAt_skip (j := 5) (t := 21) (b := true) rfl rfl eg ⟨undef, rfl, fun x hx => Option.some.inj (Option.some.inj hx), rfl, rfl⟩
        · intro a w vs hI hold hdep
          obtain rfl : w = V.drew := hI
          have hg := hdep ⟨5, .guard⟩ (by simp) rfl (by decide)
          have eg := hg.1.trans (hg.2 _ rfl)
          exact opAt_skip (j := 5) (t := 21) (b := true) rfl rfl eg ⟨undef, rfl, fun x hx => Option.some.inj (Option.some.inj hx), rfl, rfl⟩
        · intro a w vs hI hold hdep
          obtain rfl : w = V.drew := hI
          have hg := hdep ⟨5, .guard⟩ (by simp) rfl (by decide)
          have eg := hg.1.trans (hg.2 _ rfl)
          exact opAt_skip (j := 5) (t := 21) (b := true) rfl rfl eg ⟨undef, rfl, fun x hx => Option.some.inj (Option.some.inj hx), rfl, rfl⟩
        · intro a w vs hI hold hdep
          obtain rfl : w = V.drew := hI
          have hg := hdep ⟨5, .guard⟩ (by simp) rfl (by decide)
          have eg := hg.1.trans (hg.2 _ rfl)
          exact opAt_skip (j := 5) (t := 21) (b := true) rfl rfl eg ⟨undef, rfl, fun x hx => Option.some.inj (Option.some.inj hx), rfl, rfl⟩
        · intro a w vs hI hold hdep
          obtain rfl : w = V.drew := hI
          have hg := hdep ⟨5, .guard⟩ (by simp) rfl (by decide)
          have eg := hg.1.trans (hg.2 _ rfl)
          exact opAt_skip (j := 5) (t := 21) (b := true) rfl rfl eg ⟨undef, rfl, fun x hx => Option.some.inj (Option.some.inj hx), rfl, rfl⟩
        · intro a w vs hI hold hdep
          obtain rfl : w = V.drew := hI
          have hg := hdep ⟨5, .guard⟩ (by simp) rfl (by decide)
          have eg := hg.1.trans (hg.2 _ rfl)
          exact opAt_skip (j := 5) (t := 21) (b := true) rfl rfl eg ⟨undef, rfl, fun x hx => Option.some.inj (Option.some.inj hx), rfl, rfl⟩
        · intro a w vs hI hold hdep
          obtain rfl : w = V.drew := hI
          have hg := hdep ⟨5, .guard⟩ (by simp) rfl (by decide)
          have eg := hg.1.trans (hg.2 _ rfl)
          exact opAt_skip (j := 5) (t := 21) (b := true) rfl rfl eg ⟨undef, rfl, fun x hx => Option.some.inj (Option.some.inj hx), rfl, rfl⟩
        · intro a w vs hI hold hdep
          obtain rfl : w = V.drew := hI
          have hg := hdep ⟨5, .guard⟩ (by simp) rfl (by decide)
          have eg := hg.1.trans (hg.2 _ rfl)
          exact opAt_skip (j := 5) (t := 21) (b := true) rfl rfl eg ⟨undef, rfl, fun x hx => Option.some.inj (Option.some.inj hx), rfl, rfl⟩
      intro vs V2 hV2 hF
      subst hV2
      have f0 := hF 0 (by decide) _ rfl
      have f1 := hF 1 (by decide) _ rfl
      have f2 := hF 2 (by decide) _ rfl
      have f3 := hF 3 (by decide) _ rfl
      have f4 := hF 4 (by decide) _ rfl
      have f5 := hF 5 (by decide) _ rfl
      have f6 := hF 6 (by decide) _ rfl
      have f7 := hF 7 (by decide) _ rfl
      have f8 := hF 8 (by decide) _ rfl
      have f9 := hF 9 (by decide) _ rfl
      have f10 := hF 10 (by decide) _ rfl
      have f11 := hF 11 (by decide) _ rfl
      have f12 := hF 12 (by decide) _ rfl
      have f13 := hF 13 (by decide) _ rfl
      have f14 := hF 14 (by decide) _ rfl
      have f15 := hF 15 (by decide) _ rfl
      have f16 := hF 16 (by decide) _ rfl
      simp only [List.drop_succ_cons, List.drop_zero, puts, List.range, List.range.loop, List.foldr, Nat.reduceAdd, if_true, f0, f1, f2, f3, f4, f5, f6, f7, f8, f9, f10, f11, f12, f13, f14, f15, f16, Act.put, List.setIfInBounds_toArray, List.set_cons_zero, List.set_cons_succ]
      clear hF f0 f1 f2 f3 f4 f5 f6 f7 f8 f9 f10 f11 f12 f13 f14 f15 f16
      gi_wp2
      refine ⟨fun _ _ => trivial, ?_⟩
      gi_wp2
      exact HFIN.out
    | some v =>
      have n2 : V.cell? ⟨b, 2, none⟩ = some (.pointer (some ⟨c, 0, none⟩)) := by rw [cell_of_row _ _ _ _ _ _ hrow]; rfl
      have v0 : V.cell? ⟨c, 0, none⟩ = some (.int .i64 v) := by rw [cell_of_row _ _ _ _ _ _ (hbox v rfl).2]; rfl
      obtain ⟨fn, tmps, assign, body, hy, hR⟩ := HY.out _ (kk, v) V.drew (HJ.out.below i1 hbd) (cnt_at hx rfl)
      unfold pv at hy
      simp only at hy
      have HI2 := hid i2
      have HI4 := hid i4
      have HX := hid hx
      clear hrow hbox i1 i2 i3 i4 hx hxl hlq hbd
      gi_wp2
      refine wpIn_region_guarded' 17 (fun i => 16 + i) (FL [some (.pointer (some ⟨b, 0, none⟩)), some (.pointer (some ⟨b, 0, none⟩)), some (.pointer (some ⟨b, 2, none⟩)), some (.pointer (some ⟨c, 0, none⟩)), some (.bool true), some (.bool true), some (.func (.yield l) #[] #[]), some (.pointer (some ⟨b, 0, none⟩)), some (.pointer (some ⟨b, 0, none⟩)), some (.pointer (some ⟨b, 0, none⟩)), some (.agg #[.int .u32 (kk.x : Int), .int .i64 (kk.n : Int)]), some (.pointer (some ⟨b, 0, none⟩)), some (.pointer (some ⟨b, 0, none⟩)), some (.pointer (some ⟨b, 2, none⟩)), some (.pointer (some ⟨c, 0, none⟩)), some (.pointer (some ⟨c, 0, none⟩)), some (.int .i64 v)]) (fun w => w = V.drew) (fun _ w w' => w' = w) (by kernel_rfl) (by kernel_rfl) rfl (fun _ _ _ _ _ _ h _ _ => h) ?_ ?_
      · simp only [List.take_succ_cons, List.take_zero, N.stepsG]
        refine ⟨?_, ?_, ?_, ?_, ?_, ?_, ?_, ?_, ?_, ?_, ?_, ?_, ?_, ?_, ?_, ?_, ?_, trivial⟩
        · intro a w vs hI hold hdep
          obtain rfl : w = V.drew := hI
          exact opAt_plain rfl (wpIn_val (fun _ h => by cases h) (ex_move (.tmp 4) _ rfl (hold 4 (fun j hj => low (by decide)))) ⟨_, rfl, fun x hx => Option.some.inj (Option.some.inj hx), rfl, rfl⟩)
        · intro a w vs hI hold hdep
          obtain rfl : w = V.drew := hI
          have h0 := hdep ⟨0, .data⟩ (by simp) rfl (by decide)
          have e0 := h0.1.trans (h0.2 _ rfl)
          exact opAt_plain rfl (wpIn_val (fun _ h => by cases h) (ex_nil _ (.tmp 16) rfl e0) ⟨_, rfl, fun x hx => Option.some.inj (Option.some.inj hx), rfl, rfl⟩)
        · intro a w vs hI hold hdep
          obtain rfl : w = V.drew := hI
          have h1 := hdep ⟨1, .data⟩ (by simp) rfl (by decide)
          have e1 := h1.1.trans (h1.2 _ rfl)
          exact opAt_plain rfl (wpIn_val (fun _ h => by cases h) (ex_field _ _ (.tmp 17) 1 _ rfl e1 (fld_nd _).2.1) ⟨_, rfl, fun x hx => Option.some.inj (Option.some.inj hx), rfl, rfl⟩)
        · intro a w vs hI hold hdep
          obtain rfl : w = V.drew := hI
          have h2 := hdep ⟨2, .data⟩ (by simp) rfl (by decide)
          have e2 := h2.1.trans (h2.2 _ rfl)
          exact opAt_plain rfl (wpIn_val (fun _ h => by cases h) (ex_load _ ⟨b, 2, none⟩ (.tmp 18) _ rfl e2 (load_vp n2)) ⟨_, rfl, fun x hx => Option.some.inj (Option.some.inj hx), rfl, rfl⟩)
        · intro a w vs hI hold hdep
          obtain rfl : w = V.drew := hI
          have h3 := hdep ⟨3, .data⟩ (by simp) rfl (by decide)
          have e3 := h3.1.trans (h3.2 _ rfl)
          exact opAt_plain rfl (wpIn_val (fun _ h => by cases h) (ex_neqP (.tmp 19) _ rfl e3) ⟨_, rfl, fun x hx => Option.some.inj (Option.some.inj hx), rfl, rfl⟩)
        · intro a w vs hI hold hdep
          obtain rfl : w = V.drew := hI
          have h4 := hdep ⟨4, .data⟩ (by simp) rfl (by decide)
          have e4 := h4.1.trans (h4.2 _ rfl)
          exact opAt_plain rfl (wpIn_val (fun _ h => by cases h) (ex_move (.tmp 20) _ rfl e4) ⟨_, rfl, fun x hx => Option.some.inj (Option.some.inj hx), rfl, rfl⟩)
        · intro a w vs hI hold hdep
          obtain rfl : w = V.drew := hI
          have hg := hdep ⟨5, .guard⟩ (by simp) rfl (by decide)
          have eg := hg.1.trans (hg.2 _ rfl)
          exact opAt_go (j := 5) (t := 21) (b := true) rfl rfl eg (wpIn_val (fun _ h => by cases h) (ex_load _ ⟨W.heap.size, 0, none⟩ (.tmp 3) _ rfl (hold 3 (fun j hj => low (by decide))) (load_yd y0)) ⟨_, rfl, fun x hx => Option.some.inj (Option.some.inj hx), rfl, rfl⟩)
        · intro a w vs hI hold hdep
          obtain rfl : w = V.drew := hI
          have hg := hdep ⟨5, .guard⟩ (by simp) rfl (by decide)
          have eg := hg.1.trans (hg.2 _ rfl)
          exact opAt_go (j := 5) (t := 21) (b := true) rfl rfl eg (wpIn_val (fun _ h => by cases h) (ex_move (.tmp 4) _ rfl (hold 4 (fun j hj => low (by decide)))) ⟨_, rfl, fun x hx => Option.some.inj (Option.some.inj hx), rfl, rfl⟩)
        · intro a w vs hI hold hdep
          obtain rfl : w = V.drew := hI
          have hg := hdep ⟨5, .guard⟩ (by simp) rfl (by decide)
          have eg := hg.1.trans (hg.2 _ rfl)
          have h7 := hdep ⟨7, .data⟩ (by simp) rfl (by decide)
          have e7 := h7.1.trans (h7.2 _ rfl)
          exact opAt_go (j := 5) (t := 21) (b := true) rfl rfl eg (wpIn_val (fun _ h => by cases h) (ex_nil _ (.tmp 23) rfl e7) ⟨_, rfl, fun x hx => Option.some.inj (Option.some.inj hx), rfl, rfl⟩)
        · intro a w vs hI hold hdep
          obtain rfl : w = V.drew := hI
          have hg := hdep ⟨5, .guard⟩ (by simp) rfl (by decide)
          have eg := hg.1.trans (hg.2 _ rfl)
          have h8 := hdep ⟨8, .data⟩ (by simp) rfl (by decide)
          have e8 := h8.1.trans (h8.2 _ rfl)
          exact opAt_go (j := 5) (t := 21) (b := true) rfl rfl eg (wpIn_val (fun _ h => by cases h) (ex_field _ _ (.tmp 24) 0 _ rfl e8 (fld_nd _).1) ⟨_, rfl, fun x hx => Option.some.inj (Option.some.inj hx), rfl, rfl⟩)
        · intro a w vs hI hold hdep
          obtain rfl : w = V.drew := hI
          have hg := hdep ⟨5, .guard⟩ (by simp) rfl (by decide)
          have eg := hg.1.trans (hg.2 _ rfl)
          have h9 := hdep ⟨9, .data⟩ (by simp) rfl (by decide)
          have e9 := h9.1.trans (h9.2 _ rfl)
          exact opAt_go (j := 5) (t := 21) (b := true) rfl rfl eg (wpIn_val (fun _ h => by cases h) (ex_load _ ⟨b, 0, none⟩ (.tmp 25) _ rfl e9 (load_pre n0 n1)) ⟨_, rfl, fun x hx => Option.some.inj (Option.some.inj hx), rfl, rfl⟩)
        · intro a w vs hI hold hdep
          obtain rfl : w = V.drew := hI
          have hg := hdep ⟨5, .guard⟩ (by simp) rfl (by decide)
          have eg := hg.1.trans (hg.2 _ rfl)
          exact opAt_go (j := 5) (t := 21) (b := true) rfl rfl eg (wpIn_val (fun _ h => by cases h) (ex_move (.tmp 4) _ rfl (hold 4 (fun j hj => low (by decide)))) ⟨_, rfl, fun x hx => Option.some.inj (Option.some.inj hx), rfl, rfl⟩)
        · intro a w vs hI hold hdep
          obtain rfl : w = V.drew := hI
          have hg := hdep ⟨5, .guard⟩ (by simp) rfl (by decide)
          have eg := hg.1.trans (hg.2 _ rfl)
          have h11 := hdep ⟨11, .data⟩ (by simp) rfl (by decide)
          have e11 := h11.1.trans (h11.2 _ rfl)
          exact opAt_go (j := 5) (t := 21) (b := true) rfl rfl eg (wpIn_val (fun _ h => by cases h) (ex_nil _ (.tmp 27) rfl e11) ⟨_, rfl, fun x hx => Option.some.inj (Option.some.inj hx), rfl, rfl⟩)
        · intro a w vs hI hold hdep
          obtain rfl : w = V.drew := hI
          have hg := hdep ⟨5, .guard⟩ (by simp) rfl (by decide)
          have eg := hg.1.trans (hg.2 _ rfl)
          have h12 := hdep ⟨12, .data⟩ (by simp) rfl (by decide)
          have e12 := h12.1.trans (h12.2 _ rfl)
          exact opAt_go (j := 5) (t := 21) (b := true) rfl rfl eg (wpIn_val (fun _ h => by cases h) (ex_field _ _ (.tmp 28) 1 _ rfl e12 (fld_nd _).2.1) ⟨_, rfl, fun x hx => Option.some.inj (Option.some.inj hx), rfl, rfl⟩)
        · intro a w vs hI hold hdep
          obtain rfl : w = V.drew := hI
          have hg := hdep ⟨5, .guard⟩ (by simp) rfl (by decide)
          have eg := hg.1.trans (hg.2 _ rfl)
          have h13 := hdep ⟨13, .data⟩ (by simp) rfl (by decide)
          have e13 := h13.1.trans (h13.2 _ rfl)
          exact opAt_go (j := 5) (t := 21) (b := true) rfl rfl eg (wpIn_val (fun _ h => by cases h) (ex_load _ ⟨b, 2, none⟩ (.tmp 29) _ rfl e13 (load_vp n2)) ⟨_, rfl, fun x hx => Option.some.inj (Option.some.inj hx), rfl, rfl⟩)
        · intro a w vs hI hold hdep
          obtain rfl : w = V.drew := hI
          have hg := hdep ⟨5, .guard⟩ (by simp) rfl (by decide)
          have eg := hg.1.trans (hg.2 _ rfl)
          have h14 := hdep ⟨14, .data⟩ (by simp) rfl (by decide)
          have e14 := h14.1.trans (h14.2 _ rfl)
          exact opAt_go (j := 5) (t := 21) (b := true) rfl rfl eg (wpIn_val (fun _ h => by cases h) (ex_nil _ (.tmp 30) rfl e14) ⟨_, rfl, fun x hx => Option.some.inj (Option.some.inj hx), rfl, rfl⟩)
        · intro a w vs hI hold hdep
          obtain rfl : w = V.drew := hI
          have hg := hdep ⟨5, .guard⟩ (by simp) rfl (by decide)
          have eg := hg.1.trans (hg.2 _ rfl)
          have h15 := hdep ⟨15, .data⟩ (by simp) rfl (by decide)
          have e15 := h15.1.trans (h15.2 _ rfl)
          exact opAt_go (j := 5) (t := 21) (b := true) rfl rfl eg (wpIn_val (fun _ h => by cases h) (ex_load _ ⟨c, 0, none⟩ (.tmp 31) _ rfl e15 (load_in v0)) ⟨_, rfl, fun x hx => Option.some.inj (Option.some.inj hx), rfl, rfl⟩)
      intro vs V2 hV2 hF
      subst hV2
      have f0 := hF 0 (by decide) _ rfl
      have f1 := hF 1 (by decide) _ rfl
      have f2 := hF 2 (by decide) _ rfl
      have f3 := hF 3 (by decide) _ rfl
      have f4 := hF 4 (by decide) _ rfl
      have f5 := hF 5 (by decide) _ rfl
      have f6 := hF 6 (by decide) _ rfl
      have f7 := hF 7 (by decide) _ rfl
      have f8 := hF 8 (by decide) _ rfl
      have f9 := hF 9 (by decide) _ rfl
      have f10 := hF 10 (by decide) _ rfl
      have f11 := hF 11 (by decide) _ rfl
      have f12 := hF 12 (by decide) _ rfl
      have f13 := hF 13 (by decide) _ rfl
      have f14 := hF 14 (by decide) _ rfl
      have f15 := hF 15 (by decide) _ rfl
      have f16 := hF 16 (by decide) _ rfl
      simp only [List.drop_succ_cons, List.drop_zero, puts, List.range, List.range.loop, List.foldr, Nat.reduceAdd, if_true, f0, f1, f2, f3, f4, f5, f6, f7, f8, f9, f10, f11, f12, f13, f14, f15, f16, Act.put, List.setIfInBounds_toArray, List.set_cons_zero, List.set_cons_succ]
      clear hF f0 f1 f2 f3 f4 f5 f6 f7 f8 f9 f10 f11 f12 f13 f14 f15 f16
      gi_wp2
      refine ⟨fun h => (by cases h), (roundIn_any hR).mono ?_⟩
      rintro _ V3 ⟨hK3, (⟨rfl, hJ3⟩ | ⟨rfl, hZ3⟩)⟩
      · have HFIN : Hid (KeepsN W4.heap.size V V3 ∧ J (cnt (pre q) (k + 1)) V3 ∧ V3.heap[W.heap.size]? = some (.cells #[.func (.yield l) #[] #[]] 93) ∧ (k + 1 = 0 → V3.heap[W3.heap.size]? = some (.cells #[.pointer qp] 48)) ∧ W3.heap.size < V3.heap.size) := by
          have hk : KeepsN W4.heap.size V V3 := (KeepsN.of_below (W := V) (W' := V.drew) ⟨rfl, rfl, rfl, Nat.le_refl _, fun _ _ => rfl⟩).trans (hK3.mono (C := W4.heap.size) (by have := HSZ.out; have := HS4.out; omega))
          refine ⟨hk, by rw [cnt_some HX.out rfl]; exact hJ3, hK3.same _ _ (Nat.le_refl _) HI2.out (.inr (.inr ⟨_, rfl⟩)), fun h => by omega, Nat.lt_of_lt_of_le HI4.out hk.size⟩
        clear hK3 hJ3 hy hR
        gi_wp2
        exact HFIN.out
      · have HFIN : Hid (KeepsN W4.heap.size V V3 ∧ Z () V3) := ⟨(KeepsN.of_below (W := V) (W' := V.drew) ⟨rfl, rfl, rfl, Nat.le_refl _, fun _ _ => rfl⟩).trans (hK3.mono (C := W4.heap.size) (by have := HSZ.out; have := HS4.out; omega)), hZ3⟩
        clear hK3 hZ3 hy hR
        gi_wp2
        exact ⟨HFIN.out.1, rfl, HFIN.out.2⟩
  case done =>
    rintro D V hD ⟨i1, i2, i3, i4⟩ hK
    rw [cnt_all] at i1
    have hbD : Below V.heap.size V V := Below.refl _ _
    have HJD : Hid (J ((pre q).filterMap MT.ent).length (V.putObj D (.deferred none))) := HJ.out.putObj _ i1 (by have := HSZ.out; have := HS4.out; omega) hK (.inl rfl)
    have HKD := hid hK
    clear i1 i2 i3 i4 hK hbD
    go_wp2_with fail
    refine ⟨by simp, .inl ⟨_, _, rfl, run_takeDeferred HKD.out, ?_⟩⟩
    refine ⟨_, (by simp [results, Try.results41, go_sem]; rfl), ⟨_, rfl⟩, .inl HJD.out⟩
  case stop =>
    rintro D c V hD ⟨rfl, i1⟩ hK
    have HZD : Hid (Z () (V.putObj D (.deferred none))) := HZ.out.putObj _ i1 (by have := HSZ.out; have := HS4.out; omega) hK (.inl rfl)
    have HKD := hid hK
    clear i1 hK
    refine wpIn_wide.2 ?_
    go_wp2_with fail
    refine ⟨by simp, .inl ⟨_, _, rfl, run_takeDeferred HKD.out, ?_⟩⟩
    refine ⟨_, (by simp [results, Try.results41, go_sem]; rfl), ⟨_, rfl⟩, .inr HZD.out⟩
end Go.Proofs.Ytmnafocmbcgdiab
