/-
  weftlaw8.nested.
-/
import Derived.Test.YtmnafocmbcgdiaaXEA
import Derived.Test.YtmnafocmbcgdiaaWOA
import Derived.Test.YtmnafocmbcgdiaaVU
namespace Go.Proofs.Ytmnafocmbcgdiaa
open Go.ChangeShapes Go.WideShapes Go.ChangeAt Go.RowKit Go.Shelf Tri N
attribute [local go_sem] Oper.semAt_some
set_option maxHeartbeats 16000000
set_option maxRecDepth 100000

theorem eq_f59 (f : FuncId) (a b : Array Value) (u : World) : (binOp .eql 59 (.func (.func f) a b) .nilFunc).run Try.prog u = .ok (.bool false) u := by
  kernel_rfl
theorem load_sP {u : World} {p : Addr} {a : Option Addr} {n c : Nat} (h : u.cell? p = some (.slice a n c)) : (Instr.loadAt 22 (.pointer (some p))).run Try.prog u = .ok (.slice a n c) u := by
  simp [go_sem, h]
theorem ex_lenP {o : Oper} {a : Act} {w : World} (t : Nat) (ao : Option Addr) (n c : Nat) (ho : o.op = .call { callee := .builtin .len, args := #[.tmp t], argTypes := #[22] }) (hx : a.eval (.tmp t) = .slice ao n c) : (execOp a.eval o).run Try.prog w = .ok (.value (.int .i64 (n : Int))) w := by
  have hx' : a.tmps[t]?.getD undef = .slice ao n c := by simpa [Act.eval] using hx
  simp only [execOp, ho]
  simp [hx', go_sem]
theorem ex_geqN {o : Oper} {a : Act} {w : World} (x y : Operand) (i j : Int) (b : Bool) (ho : o.op = .binOp .geq 3 x y 3) (hx : a.eval x = .int .i64 i) (hy : a.eval y = .int .i64 j) (hb : decide (j ≤ i) = b) : (execOp a.eval o).run Try.prog w = .ok (.value (.bool b)) w := by
  simp only [execOp, ho, hx, hy]
  simp [go_sem, eqGuard, ← hb]
theorem ex_neqKN {o : Oper} {a : Act} {w : World} (x y : Operand) (ek : K) (ho : o.op = .binOp .neq 32 x y 32) (hx : a.eval x = .agg #[.int .u32 (ek.x : Int), .int .i64 (ek.n : Int)]) (hy : a.eval y = .agg #[.int .u32 (ek.x : Int), .int .i64 (ek.n : Int)]) : (execOp a.eval o).run Try.prog w = .ok (.value (.bool false)) w := by
  simp only [execOp, ho, hx, hy]
  simp [go_sem, eqGuard]
theorem ex_neqIN {o : Oper} {a : Act} {w : World} (x y : Operand) (i : Int) (ho : o.op = .binOp .neq 3 x y 3) (hx : a.eval x = .int .i64 i) (hy : a.eval y = .int .i64 i) : (execOp a.eval o).run Try.prog w = .ok (.value (.bool false)) w := by
  simp only [execOp, ho, hx, hy]
  simp [go_sem, eqGuard]
theorem ex_pickFN {o : Oper} {a : Act} {w : World} (x y : Operand) (z : Value) (ho : o.op = .pick x (.const (.bool true)) y) (hx : a.eval x = .bool false) (hy : a.eval y = z) : (execOp a.eval o).run Try.prog w = .ok (.value z) w := by
  simp only [execOp, ho, hx, hy]
  simp [go_sem]

theorem five {w : World} (A B C D E : Obj) : Below w.heap.size w (((((w.alloc A).alloc B).alloc C).alloc D).alloc E) ∧ (((((w.alloc A).alloc B).alloc C).alloc D).alloc E).heap[w.heap.size]? = some A ∧ (((((w.alloc A).alloc B).alloc C).alloc D).alloc E).heap[w.heap.size + 1]? = some B ∧ (((((w.alloc A).alloc B).alloc C).alloc D).alloc E).heap[w.heap.size + 2]? = some C ∧ (((((w.alloc A).alloc B).alloc C).alloc D).alloc E).heap[w.heap.size + 3]? = some D ∧ (((((w.alloc A).alloc B).alloc C).alloc D).alloc E).heap[w.heap.size + 4]? = some E := by
  have h1 := heap_alloc_new w A
  have h2 := heap_alloc_new (w.alloc A) B
  have h3 := heap_alloc_new ((w.alloc A).alloc B) C
  have h4 := heap_alloc_new (((w.alloc A).alloc B).alloc C) D
  have h5 := heap_alloc_new ((((w.alloc A).alloc B).alloc C).alloc D) E
  have z1 : (w.alloc A).heap.size = w.heap.size + 1 := World.size_alloc _ _
  have z2 : ((w.alloc A).alloc B).heap.size = w.heap.size + 2 := by rw [World.size_alloc, z1]
  have z3 : (((w.alloc A).alloc B).alloc C).heap.size = w.heap.size + 3 := by rw [World.size_alloc, z2]
  have z4 : ((((w.alloc A).alloc B).alloc C).alloc D).heap.size = w.heap.size + 4 := by rw [World.size_alloc, z3]
  rw [z1] at h2
  rw [z2] at h3
  rw [z3] at h4
  rw [z4] at h5
  refine ⟨(((((Below.refl _ _).alloc (Nat.le_refl _) _).alloc (by omega) _).alloc (by omega) _).alloc (by omega) _).alloc (by omega) _, ?_, ?_, ?_, ?_, h5⟩
  · rw [Below.heap_alloc _ _ _ (by omega), Below.heap_alloc _ _ _ (by omega), Below.heap_alloc _ _ _ (by omega), Below.heap_alloc _ _ _ (by omega)]; exact h1
  · rw [Below.heap_alloc _ _ _ (by omega), Below.heap_alloc _ _ _ (by omega), Below.heap_alloc _ _ _ (by omega)]; exact h2
  · rw [Below.heap_alloc _ _ _ (by omega), Below.heap_alloc _ _ _ (by omega)]; exact h3
  · rw [Below.heap_alloc _ _ _ (by omega)]; exact h4

/-- What nested has laid: the boxes of inner, out, in, of its result and of i. -/
structure NsB (w W : World) (va vo vi : Value) (k : Nat) : Prop where
  bel : Below w.heap.size w W
  b5 : W.heap[w.heap.size]? = some (.cells #[va] 59)
  b6 : W.heap[w.heap.size + 1]? = some (.cells #[vo] 22)
  b7 : W.heap[w.heap.size + 2]? = some (.cells #[vi] 22)
  b8 : W.heap[w.heap.size + 3]? = some (.cells #[.bool false] 4)
  b9 : W.heap[w.heap.size + 4]? = some (.cells #[.int .i64 (k : Int)] 3)

theorem NsB.below {w W W' : World} {va vo vi : Value} {k B : Nat} (h : NsB w W va vo vi k) (hb : Below B W W') (hB : w.heap.size + 5 ≤ B) : NsB w W' va vo vi k :=
  ⟨h.bel.trans (hb.mono (by omega)), below_keeps hb h.b5 (by omega), below_keeps hb h.b6 (by omega), below_keeps hb h.b7 (by omega), below_keeps hb h.b8 (by omega), below_keeps hb h.b9 (by omega)⟩

theorem NsB.size {w W : World} {va vo vi : Value} {k : Nat} (h : NsB w W va vo vi k) : w.heap.size + 5 ≤ W.heap.size := (Array.getElem?_eq_some_iff.1 h.b9).1

/-- The inner range under way: all but j is as it was. -/
structure NsJ (W5 V : World) (jb j : Nat) : Prop where
  sz : W5.heap.size ≤ V.heap.size
  ch : Chg (fun b => b = jb) W5 V
  bj : V.heap[jb]? = some (.cells #[.int .i64 (j : Int)] 3)

theorem NsJ.keeps {W5 V : World} {jb j b : Nat} {o : Obj} (h : NsJ W5 V jb j) (hb : W5.heap[b]? = some o) (hn : b ≠ jb) : V.heap[b]? = some o := (h.ch.block _ (Array.getElem?_eq_some_iff.1 hb).1 hn).trans hb

theorem NsJ.ns {w W5 V : World} {va vo vi : Value} {k jb j : Nat} (h : NsJ W5 V jb j) (hn : NsB w W5 va vo vi k) (hj : w.heap.size + 5 ≤ jb) : NsB w V va vo vi k := by
  refine ⟨⟨h.ch.os.trans hn.bel.os, h.ch.tape.trans hn.bel.tape, h.ch.output.trans hn.bel.output, Nat.le_trans hn.bel.size h.sz, fun b hb => ?_⟩, h.keeps hn.b5 (by omega), h.keeps hn.b6 (by omega), h.keeps hn.b7 (by omega), h.keeps hn.b8 (by omega), h.keeps hn.b9 (by omega)⟩
  exact (h.ch.block b (Nat.lt_of_lt_of_le hb hn.bel.size) (by omega)).trans (hn.bel.block b hb)

theorem NsJ.belowJ {W5 V V' : World} {jb j : Nat} (h : NsJ W5 V jb j) (hj : jb < W5.heap.size) (hb : Below W5.heap.size V V') : NsJ W5 V' jb j :=
  ⟨Nat.le_trans h.sz hb.size, ⟨hb.os.trans h.ch.os, hb.tape.trans h.ch.tape, hb.output.trans h.ch.output, Nat.le_trans h.ch.size hb.size, fun b h1 h2 => (hb.block b h1).trans (h.ch.block b h1 h2)⟩, below_keeps hb h.bj hj⟩

theorem NsJ.own {W5 : World} {jb : Nat} (hj : jb < W5.heap.size) : OwnN W5.heap.size (fun j V => NsJ W5 V jb j) :=
  ownN_below (fun _ _ h => h.sz) (fun _ _ _ h hb => h.belowJ hj hb)

theorem NsJ.step {W5 V Vc : World} {jb j : Nat} (h : NsJ W5 V jb j) (hj : jb < W5.heap.size) (hh : Vc.heap = (V.setCell ⟨jb, 0, none⟩ (.int .i64 ((j : Int) + 1))).heap) (h1 : Vc.os = V.os) (h2 : Vc.tape = V.tape) (h3 : Vc.output = V.output) : KeepsN W5.heap.size V Vc ∧ NsJ W5 Vc jb (j + 1) := by
  have bt : But jb V (V.setCell ⟨jb, 0, none⟩ (.int .i64 ((j : Int) + 1))) := But.set _ _ _ _
  have hsz : V.heap.size ≤ Vc.heap.size := by rw [hh]; exact bt.size
  have hbl : ∀ b, b < V.heap.size → b ≠ jb → Vc.heap[b]? = V.heap[b]? := fun b hb hn => by rw [hh]; exact bt.block b hb hn
  have hz := h.sz
  refine ⟨⟨hsz, fun b o hb ho _ => (hbl b (Array.getElem?_eq_some_iff.1 ho).1 (by omega)).trans ho⟩, Nat.le_trans hz hsz, ⟨h1.trans h.ch.os, h2.trans h.ch.tape, h3.trans h.ch.output, Nat.le_trans h.ch.size hsz, fun b hb hn => (hbl b (by omega) hn).trans (h.ch.block b hb hn)⟩, ?_⟩
  rw [hh, set_row h.bj]
  rfl

theorem NsB.step {w W V Vc : World} {va vo vi : Value} {i B : Nat} (h : NsB w V va vo vi i) (hB : w.heap.size + 5 ≤ B) (hk : KeepsN B W V) (hh : Vc.heap = (V.setCell ⟨w.heap.size + 4, 0, none⟩ (.int .i64 ((i : Int) + 1))).heap) (h1 : Vc.os = V.os) (h2 : Vc.tape = V.tape) (h3 : Vc.output = V.output) (hz : B ≤ V.heap.size) : KeepsN B W Vc ∧ B ≤ Vc.heap.size ∧ NsB w Vc va vo vi (i + 1) := by
  have bt : But (w.heap.size + 4) V (V.setCell ⟨w.heap.size + 4, 0, none⟩ (.int .i64 ((i : Int) + 1))) := But.set _ _ _ _
  have hsz : V.heap.size ≤ Vc.heap.size := by rw [hh]; exact bt.size
  have hbl : ∀ b, b < V.heap.size → b ≠ w.heap.size + 4 → Vc.heap[b]? = V.heap[b]? := fun b hb hn => by rw [hh]; exact bt.block b hb hn
  have kp' : ∀ {b : Nat} {o : Obj}, V.heap[b]? = some o → b ≠ w.heap.size + 4 → Vc.heap[b]? = some o := fun hb hn => (hbl _ (Array.getElem?_eq_some_iff.1 hb).1 hn).trans hb
  have hs := h.size
  refine ⟨⟨Nat.le_trans hk.size hsz, fun b o hb ho hm => kp' (hk.same b o hb ho hm) (by omega)⟩, Nat.le_trans hz hsz, ⟨h1.trans h.bel.os, h2.trans h.bel.tape, h3.trans h.bel.output, Nat.le_trans h.bel.size hsz, fun b hb => (hbl b (by omega) (by omega)).trans (h.bel.block b hb)⟩, kp' h.b5 (by omega), kp' h.b6 (by omega), kp' h.b7 (by omega), kp' h.b8 (by omega), ?_⟩
  rw [hh, set_row h.b9]
  rfl

theorem kp_at' {L : List (K × Int)} {i : Nat} {e : K × Int} {p : Nat × Int} (h1 : L[i]? = some e) (h2 : ((L.map Prod.fst).map kp)[i]? = some p) : p = (e.1.x, (e.1.n : Int)) := by
  rw [List.getElem?_map, List.getElem?_map, h1] at h2
  exact (Option.some.inj h2).symm

theorem nested_any {w : World} {X : Nat → Prop} {tb p1 t1 x1 p2 t2 x2 : Nat} {y1 y2 : Int} {m : MT} {vo vi : Value} {lo hi : Nat} (hS1 : SeqB w X p1 t1 tb x1 y1 m) (hS2 : SeqB w X p2 t2 tb x2 y2 m) (hx1 : x1 < 4294967296) (hx2 : x2 < 4294967296) (hwf : WF lo hi m.tr) (hm : nodes m.tr ≤ 10000000000)
    (ho : Sees w vo (((entsIn (ents m.tr) x1 y1).map Prod.fst).map kp)) (hv : Sees w vi (((entsIn (ents m.tr) x2 y2).map Prod.fst).map kp)) :
    Calls Try.prog 28 #[.func (.func 43) #[] #[.pointer (some ⟨p1, 0, none⟩), .pointer (some ⟨t1, 0, none⟩)], .func (.func 43) #[] #[.pointer (some ⟨p2, 0, none⟩), .pointer (some ⟨t2, 0, none⟩)], vo, vi] w fun e w' => e = .returned (.bool true) ∧ Below w.heap.size w w' := by
  obtain ⟨ao, no, co, rfl, HNO0, hoc, hom⟩ := ho.shape
  obtain ⟨ai, ni, ci, rfl, HNI0, hic, him⟩ := hv.shape
  obtain ⟨E1, HE1⟩ : ∃ E1, Hid (E1 = entsIn (ents m.tr) x1 y1) := ⟨_, rfl⟩
  obtain ⟨E2, HE2⟩ : ∃ E2, Hid (E2 = entsIn (ents m.tr) x2 y2) := ⟨_, rfl⟩
  rw [← HE1.out] at HNO0 ho
  rw [← HE2.out] at HNI0 hv
  have HNO : Hid (no = E1.length) := by have := HNO0.out; rw [List.length_map, List.length_map] at this; exact this
  have HNI : Hid (ni = E2.length) := by have := HNI0.out; rw [List.length_map, List.length_map] at this; exact this
  have HG1 := hid (seq_gives 8 (by omega) X p1 t1 tb x1 y1 m hx1 hwf hm)
  have HG2 := hid (seq_gives 6 (by omega) X p2 t2 tb x2 y2 m hx2 hwf hm)
  rw [← HE1.out] at HG1
  rw [← HE2.out] at HG2
  have HSO := hid ho
  have HSI := hid hv
  have HS1 := hid hS1
  have HS2 := hid hS2
  unfold maxLen at hom him
  obtain ⟨w1, HW1⟩ : ∃ w1, Hid (w1 = ((((w.alloc (.cells #[.func (.func 43) #[] #[.pointer (some ⟨p2, 0, none⟩), .pointer (some ⟨t2, 0, none⟩)]] 59)).alloc (.cells #[.slice ao no co] 22)).alloc (.cells #[.slice ai ni ci] 22)).alloc (.cells #[.bool false] 4)).alloc (.cells #[.int .i64 0] 3)) := ⟨_, rfl⟩
  have hs1 : w1.heap.size = w.heap.size + 5 := by rw [HW1.out]; simp
  have HN1 : Hid (NsB w w1 (.func (.func 43) #[] #[.pointer (some ⟨p2, 0, none⟩), .pointer (some ⟨t2, 0, none⟩)]) (.slice ao no co) (.slice ai ni ci) 0) := by
    unfold Hid
    rw [HW1.out]
    obtain ⟨q0, q1, q2, q3, q4, q5⟩ := five (w := w) (.cells #[.func (.func 43) #[] #[.pointer (some ⟨p2, 0, none⟩), .pointer (some ⟨t2, 0, none⟩)]] 59) (.cells #[.slice ao no co] 22) (.cells #[.slice ai ni ci] 22) (.cells #[.bool false] 4) (.cells #[.int .i64 0] 3)
    exact ⟨q0, q1, q2, q3, q4, q5⟩
  have HZ1 := hid hs1
  clear ho hv hS1 hS2 hx1 hx2 hwf hm HNO0 HNI0 hs1
  have hq1 := eq_f59 43 #[] #[.pointer (some ⟨p1, 0, none⟩), .pointer (some ⟨t1, 0, none⟩)]
  have hq2 := eq_f59 43 #[] #[.pointer (some ⟨p2, 0, none⟩), .pointer (some ⟨t2, 0, none⟩)]
  refine (callsIn_wide (n := 9)).1 ?_
  refine callsIn_of_wp_marks Try.func28 rfl trivial ?_ rfl
  refine wpIn_wide.2 ?_
  simp only [Try.ntmps28, List.size_toArray, List.length_cons, List.length_nil, Nat.reduceAdd, Nat.reduceSub, Array.replicate_succ, Array.replicate_zero, List.push_toArray, List.append_toArray, List.nil_append, List.cons_append]
  go_upto_region 4 with fail
  rw [← HW1.out]
  clear hq1 hq2
  go_wp2_with fail
  refine wpIn_wide.1 (wpIn_givesU (β := Nat) (n := 9) (F := Fence.wide) rfl (by omega) (gf := 43) (lb := #[.pointer (some ⟨p1, 0, none⟩), .pointer (some ⟨t1, 0, none⟩)]) rfl trivial (enters_of Try.func43 (by kernel_rfl) rfl)
    HG1.out (fun _ => rfl) (fun i W => w1.heap.size ≤ W.heap.size ∧ NsB w W (.func (.func 43) #[] #[.pointer (some ⟨p2, 0, none⟩), .pointer (some ⟨t2, 0, none⟩)]) (.slice ao no co) (.slice ai ni ci) i) (fun _ _ => False) ?hI ?hIx ?hF ?h0
    (fun e b tt => ((tt.setIfInBounds 20 (pv e.1)).setIfInBounds 21 (.int .i64 e.2)).setIfInBounds 10 (.pointer (some ⟨b, 0, none⟩))) (fun e b W => w1.heap.size ≤ b ∧ W.heap[b]? = some (.cells #[.int .u32 (e.1.x : Int), .int .i64 (e.1.n : Int)] 32)) ?hAy ?assign ?body ?done ?stop)
  case hI =>
    refine ownN_below (fun i W hi => hi.1) ?_
    rintro i W W' ⟨i1, i2⟩ hb
    exact ⟨Nat.le_trans i1 hb.size, i2.below hb (Nat.le_of_eq HZ1.out.symm)⟩
  case hIx => exact fun _ _ _ _ h _ _ => h.elim
  case hF =>
    rintro i W ⟨i1, i2⟩
    exact HS1.out.below i2.bel
  case h0 => exact ⟨Nat.le_refl _, HN1.out⟩
  case hAy =>
    rintro e b _ W W' row ⟨h1, h2⟩ hg hr
    refine ⟨h1, (hg.block _ (Array.getElem?_eq_some_iff.1 h2).1 (fun he => ?_)).trans h2⟩
    obtain ⟨_, o, ho, hm⟩ := hr b he.symm
    rw [h2] at ho
    cases ho
    rcases hm with hm | ⟨cs, hm⟩ | ⟨cs, hm⟩
    · cases hm
    · injection hm with _ hm; exact absurd hm (by decide)
    · injection hm with _ hm; exact absurd hm (by decide)
  case assign =>
    intro l i e W K hi hx hK
    obtain ⟨W2, HW2⟩ : ∃ W2, Hid (W2 = W.alloc (.cells #[.int .u32 (e.1.x : Int), .int .i64 (e.1.n : Int)] 32)) := ⟨_, rfl⟩
    have hbW : Below W.heap.size W W2 := by rw [HW2.out]; exact (Below.refl _ _).alloc (Nat.le_refl _) _
    have hrW : W2.heap[W.heap.size]? = some (.cells #[.int .u32 (e.1.x : Int), .int .i64 (e.1.n : Int)] 32) := by rw [HW2.out]; exact heap_alloc_new W _
    obtain ⟨i1, i2⟩ := hi
    have HK := hK W.heap.size W2 (KeepsN.of_below hbW) ⟨Nat.le_trans i1 hbW.size, i2.below hbW i2.size⟩ ⟨i1, hrW⟩
    unfold pv at HK ⊢
    simp only [List.setIfInBounds_toArray, List.set_cons_zero, List.set_cons_succ] at HK ⊢
    clear hK i1 i2 hx hbW hrW
    gi_wp2
    rw [← HW2.out]
    exact HK
  case body =>
    rintro l i e b W hl ⟨r0, hr0⟩ ⟨i1, i2⟩ ⟨j1, j2⟩ hx
    obtain ⟨W5, HW5⟩ : ∃ W5, Hid (W5 = W.alloc (.cells #[.int .i64 0] 3)) := ⟨_, rfl⟩
    have hb5 : Below W.heap.size W W5 := by rw [HW5.out]; exact (Below.refl _ _).alloc (Nat.le_refl _) _
    have hs5 : W5.heap.size = W.heap.size + 1 := by rw [HW5.out]; simp
    have hr5 : W5.heap[W.heap.size]? = some (.cells #[.int .i64 ((0 : Nat) : Int)] 3) := by rw [HW5.out]; exact heap_alloc_new W _
    have hl5 := below_keeps hb5 hr0 (Array.getElem?_eq_some_iff.1 hr0).1
    have hp5 := below_keeps hb5 j2 (Array.getElem?_eq_some_iff.1 j2).1
    have hn5 := i2.below hb5 i2.size
    obtain ⟨jb, HJB⟩ : ∃ jb, Hid (jb = W.heap.size) := ⟨_, rfl⟩
    rw [← HJB.out] at hr5
    have HJ0 : Hid (NsJ W5 W5 jb 0) := ⟨Nat.le_refl _, Chg.refl _ _, hr5⟩
    have HN5 := hid hn5
    have HP5 := hid hp5
    have HL5 := hid hl5
    have HJG : Hid (w.heap.size + 5 ≤ jb ∧ jb < W5.heap.size ∧ w1.heap.size ≤ jb ∧ b ≠ jb) := by
      unfold Hid
      have h1 := i2.size
      have h2 := (Array.getElem?_eq_some_iff.1 j2).1
      rw [HJB.out]
      exact ⟨h1, by omega, i1, by omega⟩
    have HKW : Hid (∀ V k, NsJ W5 V jb k → KeepsN w1.heap.size W V) := fun V k h => by
      refine ⟨Nat.le_trans hb5.size h.sz, fun q o hq ho _ => ?_⟩
      have hlt := (Array.getElem?_eq_some_iff.1 ho).1
      exact h.keeps (below_keeps hb5 ho hlt) (by rw [HJB.out]; omega)
    have HWZ : Hid (w1.heap.size ≤ W5.heap.size) := by unfold Hid; omega
    have c5 : (W.alloc (.cells #[.int .i64 0] 3)).cell? ⟨w.heap.size, 0, none⟩ = some (.func (.func 43) #[] #[.pointer (some ⟨p2, 0, none⟩), .pointer (some ⟨t2, 0, none⟩)]) := by rw [← HW5.out, cell_of_row _ _ _ _ _ _ hn5.b5]; rfl
    have HX := hid hx
    clear hb5 hs5 hr5 hl5 hp5 hn5 i1 i2 j1 j2 hx hr0 hl
    simp only [pv, List.setIfInBounds_toArray, List.set_cons_zero, List.set_cons_succ]
    gi_wp2
    rw [← HW5.out, ← HJB.out]
    clear c5
    refine wpIn_givesU_in (β := Nat) (n := 9 - 1 - 1) (F := Fence.wide.inRound l) rfl HL5.out (by omega) (gf := 43) (lb := #[.pointer (some ⟨p2, 0, none⟩), .pointer (some ⟨t2, 0, none⟩)]) rfl trivial (enters_of Try.func43 (by kernel_rfl) rfl)
      (GivesN.inRound l HG2.out) (fun _ => rfl) (fun j V => NsJ W5 V jb j) (fun _ _ => False) (NsJ.own HJG.out.2.1) (fun _ _ _ _ h _ _ => h.elim) (fun j V h => HS2.out.below (h.ns HN5.out HJG.out.1).bel) HJ0.out
      (fun e b tt => ((tt.setIfInBounds 23 (pv e.1)).setIfInBounds 24 (.int .i64 e.2)).setIfInBounds 12 (.pointer (some ⟨b, 0, none⟩))) (fun e b V => W5.heap.size ≤ b ∧ V.heap[b]? = some (.cells #[.int .u32 (e.1.x : Int), .int .i64 (e.1.n : Int)] 32)) ?hAy2 ?assign2 ?body2 ?done2 ?stop2
    case hAy2 =>
      rintro e b _ W W' row ⟨h1, h2⟩ hg hr
      refine ⟨h1, (hg.block _ (Array.getElem?_eq_some_iff.1 h2).1 (fun he => ?_)).trans h2⟩
      obtain ⟨_, o, ho, hm⟩ := hr b he.symm
      rw [h2] at ho
      cases ho
      rcases hm with hm | ⟨cs, hm⟩ | ⟨cs, hm⟩
      · cases hm
      · injection hm with _ hm; exact absurd hm (by decide)
      · injection hm with _ hm; exact absurd hm (by decide)
    case assign2 =>
      intro l2 j e V K hj hx hK
      obtain ⟨V2, HV2⟩ : ∃ V2, Hid (V2 = V.alloc (.cells #[.int .u32 (e.1.x : Int), .int .i64 (e.1.n : Int)] 32)) := ⟨_, rfl⟩
      have hbV : Below V.heap.size V V2 := by rw [HV2.out]; exact (Below.refl _ _).alloc (Nat.le_refl _) _
      have hrV : V2.heap[V.heap.size]? = some (.cells #[.int .u32 (e.1.x : Int), .int .i64 (e.1.n : Int)] 32) := by rw [HV2.out]; exact heap_alloc_new V _
      have HK := hK V.heap.size V2 (KeepsN.of_below hbV) (hj.belowJ HJG.out.2.1 (hbV.mono hj.sz)) ⟨hj.sz, hrV⟩
      unfold pv at HK ⊢
      simp only [List.setIfInBounds_toArray, List.set_cons_zero, List.set_cons_succ] at HK ⊢
      clear hK hj hx hbV hrV
      gi_wp2
      rw [← HV2.out]
      exact HK
    case body2 =>
      rintro l2 j e b V hl2 _ hj ⟨k1, k2⟩ hx
      obtain ⟨ek, ev⟩ := e
      simp only at k2
      have hns := hj.ns HN5.out HJG.out.1
      have hin : j < ni := by have h1 := (List.getElem?_eq_some_iff.1 hx).1; have h2 := HNI.out; omega
      obtain ⟨g, off, p, hai, hg, c0, c1, HQ⟩ := (HSI.out.below hns.bel).at j hin
      obtain rfl := kp_at' hx HQ.out
      subst hai
      simp only at c0 c1
      have p0 : V.cell? ⟨b, 0, none⟩ = some (.int .u32 (ek.x : Int)) := by rw [cell_of_row _ _ _ _ _ _ k2]; rfl
      have p1' : V.cell? ⟨b, 1, none⟩ = some (.int .i64 (ek.n : Int)) := by rw [cell_of_row _ _ _ _ _ _ k2]; rfl
      have j0 : V.cell? ⟨jb, 0, none⟩ = some (.int .i64 (j : Int)) := by rw [cell_of_row _ _ _ _ _ _ hj.bj]; rfl
      have jf : V.frozen? ⟨jb, 0, none⟩ = false := frozen_of_row _ _ _ _ _ hj.bj
      have s0 : V.cell? ⟨w.heap.size + 2, 0, none⟩ = some (.slice (some ⟨g, off, none⟩) ni ci) := by rw [cell_of_row _ _ _ _ _ _ hns.b7]; rfl
      have hmax : (j : Int) ≤ 9223372036854775806 := by omega
      have HFIN : Hid (∀ Vc, Vc.heap = (V.setCell ⟨jb, 0, none⟩ (.int .i64 ((j : Int) + 1))).heap → Vc.os = V.os → Vc.tape = V.tape → Vc.output = V.output → KeepsN W5.heap.size V Vc ∧ NsJ W5 Vc jb (j + 1)) := fun Vc hh h1 h2 h3 => hj.step HJG.out.2.1 hh h1 h2 h3
      clear hns hj k1 k2 hx hg HQ hl2
      simp only [pv, List.setIfInBounds_toArray, List.set_cons_zero, List.set_cons_succ]
      gi_wp2
      refine wpIn_region_guarded' 11 (fun i => 25 + i) (FL [some (.int .i64 (j : Int)), some (.slice (some ⟨g, off, none⟩) ni ci), some (.int .i64 (ni : Int)), some (.bool false), some (.bool false), some (.agg #[.int .u32 (ek.x : Int), .int .i64 (ek.n : Int)]), some (.slice (some ⟨g, off, none⟩) ni ci), some (.int .i64 (j : Int)), some (.pointer (some ⟨g, off + j * 2, none⟩)), some (.agg #[.int .u32 (ek.x : Int), .int .i64 (ek.n : Int)]), some (.bool false)]) (fun u => u = V.drew) (fun _ u u' => u' = u) (by kernel_rfl) (by kernel_rfl) rfl (fun _ _ _ _ _ _ h _ _ => h) ?_ ?_
      · simp only [List.take_succ_cons, List.take_zero, N.stepsG]
        refine ⟨?_, ?_, ?_, ?_, ?_, ?_, ?_, ?_, ?_, ?_, ?_, trivial⟩
        · intro a' u vs hI hold hdep
          obtain rfl : u = V.drew := hI
          exact opAt_plain rfl (wpIn_val (fun _ h => by cases h) (ex_load _ ⟨jb, 0, none⟩ (.tmp 11) _ rfl (hold 11 (fun j hj => low (by decide))) (load_in j0)) ⟨_, rfl, fun x hx => Option.some.inj (Option.some.inj hx), rfl, rfl⟩)
        · intro a' u vs hI hold hdep
          obtain rfl : u = V.drew := hI
          exact opAt_plain rfl (wpIn_val (fun _ h => by cases h) (ex_load _ ⟨w.heap.size + 2, 0, none⟩ (.tmp 7) _ rfl (hold 7 (fun j hj => low (by decide))) (load_sP s0)) ⟨_, rfl, fun x hx => Option.some.inj (Option.some.inj hx), rfl, rfl⟩)
        · intro a' u vs hI hold hdep
          obtain rfl : u = V.drew := hI
          have h1 := hdep ⟨1, .data⟩ (by simp) rfl (by decide)
          have e1 := h1.1.trans (h1.2 _ rfl)
          exact opAt_plain rfl (wpIn_val (fun _ h => by cases h) (ex_lenP 26 _ _ _ rfl e1) ⟨_, rfl, fun x hx => Option.some.inj (Option.some.inj hx), rfl, rfl⟩)
        · intro a' u vs hI hold hdep
          obtain rfl : u = V.drew := hI
          have h0 := hdep ⟨0, .data⟩ (by simp) rfl (by decide)
          have e0 := h0.1.trans (h0.2 _ rfl)
          have h2 := hdep ⟨2, .data⟩ (by simp) rfl (by decide)
          have e2 := h2.1.trans (h2.2 _ rfl)
          exact opAt_plain rfl (wpIn_val (fun _ h => by cases h) (ex_geqN (.tmp 25) (.tmp 27) _ _ _ rfl e0 e2 (decide_eq_false (by omega))) ⟨_, rfl, fun x hx => Option.some.inj (Option.some.inj hx), rfl, rfl⟩)
        · intro a' u vs hI hold hdep
          obtain rfl : u = V.drew := hI
          have h3 := hdep ⟨3, .data⟩ (by simp) rfl (by decide)
          have e3 := h3.1.trans (h3.2 _ rfl)
          exact opAt_plain rfl (wpIn_val (fun _ h => by cases h) (ex_move (.tmp 28) _ rfl e3) ⟨_, rfl, fun x hx => Option.some.inj (Option.some.inj hx), rfl, rfl⟩)
        · intro a' u vs hI hold hdep
          obtain rfl : u = V.drew := hI
          have hg := hdep ⟨4, .guard⟩ (by simp) rfl (by decide)
          have eg := hg.1.trans (hg.2 _ rfl)
          exact opAt_go (j := 4) (t := 29) (b := false) rfl rfl eg (wpIn_val (fun _ h => by cases h) (ex_load _ ⟨b, 0, none⟩ (.tmp 12) _ rfl (hold 12 (fun j hj => low (by decide))) (load_pre p0 p1')) ⟨_, rfl, fun x hx => Option.some.inj (Option.some.inj hx), rfl, rfl⟩)
        · intro a' u vs hI hold hdep
          obtain rfl : u = V.drew := hI
          have hg := hdep ⟨4, .guard⟩ (by simp) rfl (by decide)
          have eg := hg.1.trans (hg.2 _ rfl)
          exact opAt_go (j := 4) (t := 29) (b := false) rfl rfl eg (wpIn_val (fun _ h => by cases h) (ex_load _ ⟨w.heap.size + 2, 0, none⟩ (.tmp 7) _ rfl (hold 7 (fun j hj => low (by decide))) (load_sP s0)) ⟨_, rfl, fun x hx => Option.some.inj (Option.some.inj hx), rfl, rfl⟩)
        · intro a' u vs hI hold hdep
          obtain rfl : u = V.drew := hI
          have hg := hdep ⟨4, .guard⟩ (by simp) rfl (by decide)
          have eg := hg.1.trans (hg.2 _ rfl)
          exact opAt_go (j := 4) (t := 29) (b := false) rfl rfl eg (wpIn_val (fun _ h => by cases h) (ex_load _ ⟨jb, 0, none⟩ (.tmp 11) _ rfl (hold 11 (fun j hj => low (by decide))) (load_in j0)) ⟨_, rfl, fun x hx => Option.some.inj (Option.some.inj hx), rfl, rfl⟩)
        · intro a' u vs hI hold hdep
          obtain rfl : u = V.drew := hI
          have hg := hdep ⟨4, .guard⟩ (by simp) rfl (by decide)
          have eg := hg.1.trans (hg.2 _ rfl)
          have h6 := hdep ⟨6, .data⟩ (by simp) rfl (by decide)
          have e6 := h6.1.trans (h6.2 _ rfl)
          have h7 := hdep ⟨7, .data⟩ (by simp) rfl (by decide)
          have e7 := h7.1.trans (h7.2 _ rfl)
          exact opAt_go (j := 4) (t := 29) (b := false) rfl rfl eg (wpIn_val (fun _ h => by cases h) (ex_index _ (.tmp 31) (.tmp 32) _ _ _ rfl e6 e7 (idx_pr hin _)) ⟨_, rfl, fun x hx => Option.some.inj (Option.some.inj hx), rfl, rfl⟩)
        · intro a' u vs hI hold hdep
          obtain rfl : u = V.drew := hI
          have hg := hdep ⟨4, .guard⟩ (by simp) rfl (by decide)
          have eg := hg.1.trans (hg.2 _ rfl)
          have h8 := hdep ⟨8, .data⟩ (by simp) rfl (by decide)
          have e8 := h8.1.trans (h8.2 _ rfl)
          exact opAt_go (j := 4) (t := 29) (b := false) rfl rfl eg (wpIn_val (fun _ h => by cases h) (ex_load _ ⟨g, off + j * 2, none⟩ (.tmp 33) _ rfl e8 (load_pre c0 c1)) ⟨_, rfl, fun x hx => Option.some.inj (Option.some.inj hx), rfl, rfl⟩)
        · intro a' u vs hI hold hdep
          obtain rfl : u = V.drew := hI
          have hg := hdep ⟨4, .guard⟩ (by simp) rfl (by decide)
          have eg := hg.1.trans (hg.2 _ rfl)
          have h5 := hdep ⟨5, .data⟩ (by simp) rfl (by decide)
          have e5 := h5.1.trans (h5.2 _ rfl)
          have h9 := hdep ⟨9, .data⟩ (by simp) rfl (by decide)
          have e9 := h9.1.trans (h9.2 _ rfl)
          exact opAt_go (j := 4) (t := 29) (b := false) rfl rfl eg (wpIn_val (fun _ h => by cases h) (ex_neqKN (.tmp 30) (.tmp 34) ek rfl e5 e9) ⟨_, rfl, fun x hx => Option.some.inj (Option.some.inj hx), rfl, rfl⟩)
      intro vs V2 hV2 hF
      subst hV2
      have f0 := hF 0 (by decide) _ rfl
      have f1 := hF 1 (by decide) _ rfl
      have f2 := hF 2 (by decide) _ rfl
      have f3 := hF 3 (by decide) _ rfl
      have f4 := hF 4 (by decide) _ rfl
      have f5 := hF 5 (by decide) _ rfl
      have f6 := hF 6 (by decide) _ rfl
      have f7 := hF 7 (by decide) _ rfl
      have f8 := hF 8 (by decide) _ rfl
      have f9 := hF 9 (by decide) _ rfl
      have f10 := hF 10 (by decide) _ rfl
      simp only [List.drop_succ_cons, List.drop_zero, puts, List.range, List.range.loop, List.foldr, Nat.reduceAdd, if_true, f0, f1, f2, f3, f4, f5, f6, f7, f8, f9, f10, Act.put, List.setIfInBounds_toArray, List.set_cons_zero, List.set_cons_succ]
      clear hF f0 f1 f2 f3 f4 f5 f6 f7 f8 f9 f10
      gi_wp2
      exact HFIN.out _ (by rfl) (by rfl) (by rfl) (by rfl)
    case done2 =>
      intro V hj
      have hx := HX.out
      obtain ⟨ek, ev⟩ := e
      have hns := hj.ns HN5.out HJG.out.1
      have hin : i < no := by have h1 := (List.getElem?_eq_some_iff.1 hx).1; have h2 := HNO.out; omega
      obtain ⟨g, off, p, hao, hg, c0, c1, HQ⟩ := (HSO.out.below hns.bel).at i hin
      obtain rfl := kp_at' hx HQ.out
      subst hao
      simp only at c0 c1
      have k2 := hj.keeps HP5.out HJG.out.2.2.2
      simp only at k2
      have p0 : V.cell? ⟨b, 0, none⟩ = some (.int .u32 (ek.x : Int)) := by rw [cell_of_row _ _ _ _ _ _ k2]; rfl
      have p1' : V.cell? ⟨b, 1, none⟩ = some (.int .i64 (ek.n : Int)) := by rw [cell_of_row _ _ _ _ _ _ k2]; rfl
      have j0 : V.cell? ⟨jb, 0, none⟩ = some (.int .i64 (ni : Int)) := by rw [cell_of_row _ _ _ _ _ _ hj.bj, HNI.out]; rfl
      have s0 : V.cell? ⟨w.heap.size + 2, 0, none⟩ = some (.slice ai ni ci) := by rw [cell_of_row _ _ _ _ _ _ hns.b7]; rfl
      have o0 : V.cell? ⟨w.heap.size + 1, 0, none⟩ = some (.slice (some ⟨g, off, none⟩) no co) := by rw [cell_of_row _ _ _ _ _ _ hns.b6]; rfl
      have n0 : V.cell? ⟨w.heap.size + 4, 0, none⟩ = some (.int .i64 (i : Int)) := by rw [cell_of_row _ _ _ _ _ _ hns.b9]; rfl
      have nf : V.frozen? ⟨w.heap.size + 4, 0, none⟩ = false := frozen_of_row _ _ _ _ _ hns.b9
      have hmax : (i : Int) ≤ 9223372036854775806 := by omega
      have HFIN : Hid (∀ Vc, Vc.heap = (V.setCell ⟨w.heap.size + 4, 0, none⟩ (.int .i64 ((i : Int) + 1))).heap → Vc.os = V.os → Vc.tape = V.tape → Vc.output = V.output → KeepsN w1.heap.size W Vc ∧ w1.heap.size ≤ Vc.heap.size ∧ NsB w Vc (.func (.func 43) #[] #[.pointer (some ⟨p2, 0, none⟩), .pointer (some ⟨t2, 0, none⟩)]) (.slice (some ⟨g, off, none⟩) no co) (.slice ai ni ci) (i + 1)) := fun Vc hh h1 h2 h3 => hns.step (Nat.le_of_eq HZ1.out.symm) (HKW.out V _ hj) hh h1 h2 h3 (Nat.le_trans HWZ.out hj.sz)
      clear hns hj k2 hx hg HQ
      gi_wp2
      refine wpIn_region_guarded' 17 (fun i => 39 + i) (FL [some (.int .i64 (i : Int)), some (.slice (some ⟨g, off, none⟩) no co), some (.int .i64 (no : Int)), some (.bool false), some (.bool false), some (.agg #[.int .u32 (ek.x : Int), .int .i64 (ek.n : Int)]), some (.slice (some ⟨g, off, none⟩) no co), some (.int .i64 (i : Int)), some (.pointer (some ⟨g, off + i * 2, none⟩)), some (.agg #[.int .u32 (ek.x : Int), .int .i64 (ek.n : Int)]), some (.bool false), some (.bool false), some (.bool false), some (.int .i64 (ni : Int)), some (.slice ai ni ci), some (.int .i64 (ni : Int)), some (.bool false)]) (fun u => u = V.drew) (fun _ u u' => u' = u) (by kernel_rfl) (by kernel_rfl) rfl (fun _ _ _ _ _ _ h _ _ => h) ?_ ?_
      · simp only [List.take_succ_cons, List.take_zero, N.stepsG]
        refine ⟨?_, ?_, ?_, ?_, ?_, ?_, ?_, ?_, ?_, ?_, ?_, ?_, ?_, ?_, ?_, ?_, ?_, trivial⟩
        · intro a' u vs hI hold hdep
          obtain rfl : u = V.drew := hI
          exact opAt_plain rfl (wpIn_val (fun _ h => by cases h) (ex_load _ ⟨w.heap.size + 4, 0, none⟩ (.tmp 9) _ rfl (hold 9 (fun j hj => low (by decide))) (load_in n0)) ⟨_, rfl, fun x hx => Option.some.inj (Option.some.inj hx), rfl, rfl⟩)
        · intro a' u vs hI hold hdep
          obtain rfl : u = V.drew := hI
          exact opAt_plain rfl (wpIn_val (fun _ h => by cases h) (ex_load _ ⟨w.heap.size + 1, 0, none⟩ (.tmp 6) _ rfl (hold 6 (fun j hj => low (by decide))) (load_sP o0)) ⟨_, rfl, fun x hx => Option.some.inj (Option.some.inj hx), rfl, rfl⟩)
        · intro a' u vs hI hold hdep
          obtain rfl : u = V.drew := hI
          have h1 := hdep ⟨1, .data⟩ (by simp) rfl (by decide)
          have e1 := h1.1.trans (h1.2 _ rfl)
          exact opAt_plain rfl (wpIn_val (fun _ h => by cases h) (ex_lenP 40 _ _ _ rfl e1) ⟨_, rfl, fun x hx => Option.some.inj (Option.some.inj hx), rfl, rfl⟩)
        · intro a' u vs hI hold hdep
          obtain rfl : u = V.drew := hI
          have h0 := hdep ⟨0, .data⟩ (by simp) rfl (by decide)
          have e0 := h0.1.trans (h0.2 _ rfl)
          have h2 := hdep ⟨2, .data⟩ (by simp) rfl (by decide)
          have e2 := h2.1.trans (h2.2 _ rfl)
          exact opAt_plain rfl (wpIn_val (fun _ h => by cases h) (ex_geqN (.tmp 39) (.tmp 41) _ _ _ rfl e0 e2 (decide_eq_false (by omega))) ⟨_, rfl, fun x hx => Option.some.inj (Option.some.inj hx), rfl, rfl⟩)
        · intro a' u vs hI hold hdep
          obtain rfl : u = V.drew := hI
          have h3 := hdep ⟨3, .data⟩ (by simp) rfl (by decide)
          have e3 := h3.1.trans (h3.2 _ rfl)
          exact opAt_plain rfl (wpIn_val (fun _ h => by cases h) (ex_move (.tmp 42) _ rfl e3) ⟨_, rfl, fun x hx => Option.some.inj (Option.some.inj hx), rfl, rfl⟩)
        · intro a' u vs hI hold hdep
          obtain rfl : u = V.drew := hI
          have hg := hdep ⟨4, .guard⟩ (by simp) rfl (by decide)
          have eg := hg.1.trans (hg.2 _ rfl)
          exact opAt_go (j := 4) (t := 43) (b := false) rfl rfl eg (wpIn_val (fun _ h => by cases h) (ex_load _ ⟨b, 0, none⟩ (.tmp 10) _ rfl (hold 10 (fun j hj => low (by decide))) (load_pre p0 p1')) ⟨_, rfl, fun x hx => Option.some.inj (Option.some.inj hx), rfl, rfl⟩)
        · intro a' u vs hI hold hdep
          obtain rfl : u = V.drew := hI
          have hg := hdep ⟨4, .guard⟩ (by simp) rfl (by decide)
          have eg := hg.1.trans (hg.2 _ rfl)
          exact opAt_go (j := 4) (t := 43) (b := false) rfl rfl eg (wpIn_val (fun _ h => by cases h) (ex_load _ ⟨w.heap.size + 1, 0, none⟩ (.tmp 6) _ rfl (hold 6 (fun j hj => low (by decide))) (load_sP o0)) ⟨_, rfl, fun x hx => Option.some.inj (Option.some.inj hx), rfl, rfl⟩)
        · intro a' u vs hI hold hdep
          obtain rfl : u = V.drew := hI
          have hg := hdep ⟨4, .guard⟩ (by simp) rfl (by decide)
          have eg := hg.1.trans (hg.2 _ rfl)
          exact opAt_go (j := 4) (t := 43) (b := false) rfl rfl eg (wpIn_val (fun _ h => by cases h) (ex_load _ ⟨w.heap.size + 4, 0, none⟩ (.tmp 9) _ rfl (hold 9 (fun j hj => low (by decide))) (load_in n0)) ⟨_, rfl, fun x hx => Option.some.inj (Option.some.inj hx), rfl, rfl⟩)
        · intro a' u vs hI hold hdep
          obtain rfl : u = V.drew := hI
          have hg := hdep ⟨4, .guard⟩ (by simp) rfl (by decide)
          have eg := hg.1.trans (hg.2 _ rfl)
          have h6 := hdep ⟨6, .data⟩ (by simp) rfl (by decide)
          have e6 := h6.1.trans (h6.2 _ rfl)
          have h7 := hdep ⟨7, .data⟩ (by simp) rfl (by decide)
          have e7 := h7.1.trans (h7.2 _ rfl)
          exact opAt_go (j := 4) (t := 43) (b := false) rfl rfl eg (wpIn_val (fun _ h => by cases h) (ex_index _ (.tmp 45) (.tmp 46) _ _ _ rfl e6 e7 (idx_pr hin _)) ⟨_, rfl, fun x hx => Option.some.inj (Option.some.inj hx), rfl, rfl⟩)
        · intro a' u vs hI hold hdep
          obtain rfl : u = V.drew := hI
          have hg := hdep ⟨4, .guard⟩ (by simp) rfl (by decide)
          have eg := hg.1.trans (hg.2 _ rfl)
          have h8 := hdep ⟨8, .data⟩ (by simp) rfl (by decide)
          have e8 := h8.1.trans (h8.2 _ rfl)
          exact opAt_go (j := 4) (t := 43) (b := false) rfl rfl eg (wpIn_val (fun _ h => by cases h) (ex_load _ ⟨g, off + i * 2, none⟩ (.tmp 47) _ rfl e8 (load_pre c0 c1)) ⟨_, rfl, fun x hx => Option.some.inj (Option.some.inj hx), rfl, rfl⟩)
        · intro a' u vs hI hold hdep
          obtain rfl : u = V.drew := hI
          have hg := hdep ⟨4, .guard⟩ (by simp) rfl (by decide)
          have eg := hg.1.trans (hg.2 _ rfl)
          have h5 := hdep ⟨5, .data⟩ (by simp) rfl (by decide)
          have e5 := h5.1.trans (h5.2 _ rfl)
          have h9 := hdep ⟨9, .data⟩ (by simp) rfl (by decide)
          have e9 := h9.1.trans (h9.2 _ rfl)
          exact opAt_go (j := 4) (t := 43) (b := false) rfl rfl eg (wpIn_val (fun _ h => by cases h) (ex_neqKN (.tmp 44) (.tmp 48) ek rfl e5 e9) ⟨_, rfl, fun x hx => Option.some.inj (Option.some.inj hx), rfl, rfl⟩)
        · intro a' u vs hI hold hdep
          obtain rfl : u = V.drew := hI
          have h4 := hdep ⟨4, .data⟩ (by simp) rfl (by decide)
          have e4 := h4.1.trans (h4.2 _ rfl)
          have h10 := hdep ⟨10, .data⟩ (by simp) rfl (by decide)
          have e10 := h10.1.trans (h10.2 _ rfl)
          exact opAt_plain rfl (wpIn_val (fun _ h => by cases h) (ex_pickFN (.tmp 43) (.tmp 49) _ rfl e4 e10) ⟨_, rfl, fun x hx => Option.some.inj (Option.some.inj hx), rfl, rfl⟩)
        · intro a' u vs hI hold hdep
          obtain rfl : u = V.drew := hI
          have h11 := hdep ⟨11, .data⟩ (by simp) rfl (by decide)
          have e11 := h11.1.trans (h11.2 _ rfl)
          exact opAt_plain rfl (wpIn_val (fun _ h => by cases h) (ex_move (.tmp 50) _ rfl e11) ⟨_, rfl, fun x hx => Option.some.inj (Option.some.inj hx), rfl, rfl⟩)
        · intro a' u vs hI hold hdep
          obtain rfl : u = V.drew := hI
          have hg := hdep ⟨12, .guard⟩ (by simp) rfl (by decide)
          have eg := hg.1.trans (hg.2 _ rfl)
          exact opAt_go (j := 12) (t := 51) (b := false) rfl rfl eg (wpIn_val (fun _ h => by cases h) (ex_load _ ⟨jb, 0, none⟩ (.tmp 11) _ rfl (hold 11 (fun j hj => low (by decide))) (load_in j0)) ⟨_, rfl, fun x hx => Option.some.inj (Option.some.inj hx), rfl, rfl⟩)
        · intro a' u vs hI hold hdep
          obtain rfl : u = V.drew := hI
          have hg := hdep ⟨12, .guard⟩ (by simp) rfl (by decide)
          have eg := hg.1.trans (hg.2 _ rfl)
          exact opAt_go (j := 12) (t := 51) (b := false) rfl rfl eg (wpIn_val (fun _ h => by cases h) (ex_load _ ⟨w.heap.size + 2, 0, none⟩ (.tmp 7) _ rfl (hold 7 (fun j hj => low (by decide))) (load_sP s0)) ⟨_, rfl, fun x hx => Option.some.inj (Option.some.inj hx), rfl, rfl⟩)
        · intro a' u vs hI hold hdep
          obtain rfl : u = V.drew := hI
          have hg := hdep ⟨12, .guard⟩ (by simp) rfl (by decide)
          have eg := hg.1.trans (hg.2 _ rfl)
          have h14 := hdep ⟨14, .data⟩ (by simp) rfl (by decide)
          have e14 := h14.1.trans (h14.2 _ rfl)
          exact opAt_go (j := 12) (t := 51) (b := false) rfl rfl eg (wpIn_val (fun _ h => by cases h) (ex_lenP 53 _ _ _ rfl e14) ⟨_, rfl, fun x hx => Option.some.inj (Option.some.inj hx), rfl, rfl⟩)
        · intro a' u vs hI hold hdep
          obtain rfl : u = V.drew := hI
          have hg := hdep ⟨12, .guard⟩ (by simp) rfl (by decide)
          have eg := hg.1.trans (hg.2 _ rfl)
          have h13 := hdep ⟨13, .data⟩ (by simp) rfl (by decide)
          have e13 := h13.1.trans (h13.2 _ rfl)
          have h15 := hdep ⟨15, .data⟩ (by simp) rfl (by decide)
          have e15 := h15.1.trans (h15.2 _ rfl)
          exact opAt_go (j := 12) (t := 51) (b := false) rfl rfl eg (wpIn_val (fun _ h => by cases h) (ex_neqIN (.tmp 52) (.tmp 54) _ rfl e13 e15) ⟨_, rfl, fun x hx => Option.some.inj (Option.some.inj hx), rfl, rfl⟩)
      intro vs V2 hV2 hF
      subst hV2
      have f0 := hF 0 (by decide) _ rfl
      have f1 := hF 1 (by decide) _ rfl
      have f2 := hF 2 (by decide) _ rfl
      have f3 := hF 3 (by decide) _ rfl
      have f4 := hF 4 (by decide) _ rfl
      have f5 := hF 5 (by decide) _ rfl
      have f6 := hF 6 (by decide) _ rfl
      have f7 := hF 7 (by decide) _ rfl
      have f8 := hF 8 (by decide) _ rfl
      have f9 := hF 9 (by decide) _ rfl
      have f10 := hF 10 (by decide) _ rfl
      have f11 := hF 11 (by decide) _ rfl
      have f12 := hF 12 (by decide) _ rfl
      have f13 := hF 13 (by decide) _ rfl
      have f14 := hF 14 (by decide) _ rfl
      have f15 := hF 15 (by decide) _ rfl
      have f16 := hF 16 (by decide) _ rfl
      simp only [List.drop_succ_cons, List.drop_zero, puts, List.range, List.range.loop, List.foldr, Nat.reduceAdd, if_true, f0, f1, f2, f3, f4, f5, f6, f7, f8, f9, f10, f11, f12, f13, f14, f15, f16, Act.put, List.setIfInBounds_toArray, List.set_cons_zero, List.set_cons_succ]
      clear hF f0 f1 f2 f3 f4 f5 f6 f7 f8 f9 f10 f11 f12 f13 f14 f15 f16
      gi_wp2
      exact HFIN.out _ (by rfl) (by rfl) (by rfl) (by rfl)
    case stop2 => exact fun _ _ h => h.elim
  case done =>
    rintro D W hD ⟨i1, i2⟩ hK
    have n0 : W.cell? ⟨w.heap.size + 4, 0, none⟩ = some (.int .i64 (no : Int)) := by rw [cell_of_row _ _ _ _ _ _ i2.b9, HNO.out]; rfl
    have o0 : W.cell? ⟨w.heap.size + 1, 0, none⟩ = some (.slice ao no co) := by rw [cell_of_row _ _ _ _ _ _ i2.b6]; rfl
    have rs0 : W.cell? ⟨w.heap.size + 3, 0, none⟩ = some (.bool false) := by rw [cell_of_row _ _ _ _ _ _ i2.b8]; rfl
    have rsf : W.frozen? ⟨w.heap.size + 3, 0, none⟩ = false := frozen_of_row _ _ _ _ _ i2.b8
    obtain ⟨Y2, hY2⟩ : ∃ Y2, Y2 = W.setCell ⟨w.heap.size + 3, 0, none⟩ (.bool true) := ⟨_, rfl⟩
    have bt : But (w.heap.size + 3) W Y2 := by rw [hY2]; exact But.set _ _ _ _
    have RS : Hid (Y2.heap[w.heap.size + 3]? = some (.cells #[.bool true] 4)) := by rw [hY2]; exact set_row i2.b8
    have HBY : Hid (Below w.heap.size w Y2) := bt.below i2.bel i2.bel.size (by omega)
    have hz1 := HZ1.out
    have E0 : Hid (Y2.heap[D]? = some (.deferred (some []))) := (bt.block _ (Array.getElem?_eq_some_iff.1 hK).1 (by omega)).trans hK
    have HDG : Hid (w.heap.size + 5 ≤ D) := by unfold Hid; omega
    have HY2 := hid hY2
    clear i1 i2 hK hD hY2 bt hz1
    go_wp2_with fail
    rw [← HY2.out]
    have hK0 := E0.out
    have hf0 : Below w.heap.size w (Y2.putObj D (.deferred none)) := HBY.out.trans (belowK_b (w := w) (Nat.le_refl _) Y2 D _ _ (by have := HDG.out; omega) hK0 rfl rfl)
    have rz : (Y2.putObj D (.deferred none)).heap[w.heap.size + 3]? = some (.cells #[.bool true] 4) := (World.putObj_heap_other (by have := HDG.out; omega)).trans RS.out
    have g0 : (Y2.putObj D (.deferred none)).cell? ⟨w.heap.size + 3, 0, none⟩ = some (.bool true) := by rw [cell_of_row _ _ _ _ _ _ rz]; rfl
    refine ⟨by simp, .inl ⟨_, _, rfl, run_takeDeferred hK0, ?_⟩⟩
    exact ⟨_, (by simp [results, Try.results28, go_sem, g0]), rfl, hf0⟩
  case stop =>
    rintro D c W hD h hK
    exact h.elim
end Go.Proofs.Ytmnafocmbcgdiaa
