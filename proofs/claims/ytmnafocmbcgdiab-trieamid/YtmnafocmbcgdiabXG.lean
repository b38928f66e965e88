/-
  weftlaw8.walks.
-/
import Derived.Test.YtmnafocmbcgdiabXF
import Derived.Test.YtmnafocmbcgdiabWS
namespace Go.Proofs.Ytmnafocmbcgdiab
open Go.ChangeShapes Go.WideShapes Go.ChangeAt Go.RowKit Go.Shelf Tri N
attribute [local go_sem] Oper.semAt_some
set_option maxHeartbeats 16000000
set_option maxRecDepth 100000

/-- What walks has laid. -/
structure WkB (w V : World) (bw pbx tbx tb x : Nat) (y : Int) (m : MT) (vw : Value) (E : List (K × Int)) (oc : Array Value) : Prop where
  bel : Below w.heap.size w V
  ob : V.heap[w.heap.size]? = some (.cells oc 71)
  rs : V.heap[w.heap.size + 1]? = some (.cells #[.bool false] 4)
  wt : V.heap[bw]? = some (.cells #[vw] 73)
  sq : SeqB V (fun b => b = tb) pbx tbx tb x y m
  en : OwnE V w.heap.size vw E

theorem WkB.below {w V W : World} {bw pbx tbx tb x : Nat} {y : Int} {m : MT} {vw : Value} {E : List (K × Int)} {oc : Array Value} (h : WkB w V bw pbx tbx tb x y m vw E oc) (hb : Below V.heap.size V W) : WkB w W bw pbx tbx tb x y m vw E oc :=
  ⟨h.bel.trans (hb.mono h.bel.size), below_keeps hb h.ob (Array.getElem?_eq_some_iff.1 h.ob).1, below_keeps hb h.rs (Array.getElem?_eq_some_iff.1 h.rs).1, below_keeps hb h.wt (Array.getElem?_eq_some_iff.1 h.wt).1, h.sq.below hb, h.en.below hb⟩

theorem eq_seq (f : FuncId) (a b : Array Value) (u : World) : (binOp .eql 55 (.func (.func f) a b) .nilFunc).run Try.prog u = .ok (.bool false) u := by
  kernel_rfl

theorem ex_len {o : Oper} {a : Act} {w : World} (t : Nat) (ao : Option Addr) (n c : Nat) (ho : o.op = .call { callee := .builtin .len, args := #[.tmp t], argTypes := #[73] }) (hx : a.eval (.tmp t) = .slice ao n c) : (execOp a.eval o).run Try.prog w = .ok (.value (.int .i64 (n : Int))) w := by
  have hx' : a.tmps[t]?.getD undef = .slice ao n c := by simpa [Act.eval] using hx
  simp only [execOp, ho]
  simp [hx', go_sem]
theorem ex_geq {o : Oper} {a : Act} {w : World} (x y : Operand) (i j : Int) (b : Bool) (ho : o.op = .binOp .geq 3 x y 3) (hx : a.eval x = .int .i64 i) (hy : a.eval y = .int .i64 j) (hb : decide (j ≤ i) = b) : (execOp a.eval o).run Try.prog w = .ok (.value (.bool b)) w := by
  simp only [execOp, ho, hx, hy]
  simp [go_sem, eqGuard, ← hb]
theorem ex_neqK {o : Oper} {a : Act} {w : World} (x y : Operand) (ek : K) (ho : o.op = .binOp .neq 31 x y 31) (hx : a.eval x = .agg #[.int .u32 (ek.x : Int), .int .i64 (ek.n : Int)]) (hy : a.eval y = .agg #[.int .u32 (ek.x : Int), .int .i64 (ek.n : Int)]) : (execOp a.eval o).run Try.prog w = .ok (.value (.bool false)) w := by
  simp only [execOp, ho, hx, hy]
  simp [go_sem, eqGuard]
theorem ex_neqI {o : Oper} {a : Act} {w : World} (x y : Operand) (i : Int) (ho : o.op = .binOp .neq 3 x y 3) (hx : a.eval x = .int .i64 i) (hy : a.eval y = .int .i64 i) : (execOp a.eval o).run Try.prog w = .ok (.value (.bool false)) w := by
  simp only [execOp, ho, hx, hy]
  simp [go_sem, eqGuard]
theorem ex_pickF {o : Oper} {a : Act} {w : World} (x y : Operand) (z : Value) (ho : o.op = .pick x (.const (.bool true)) y) (hx : a.eval x = .bool false) (hy : a.eval y = z) : (execOp a.eval o).run Try.prog w = .ok (.value z) w := by
  simp only [execOp, ho, hx, hy]
  simp [go_sem]

theorem walks_any {w : World} {tb rb x0 A : Nat} {k s y0 a : Int} {v : Value} {t : Tr} {L : List (K × Int)} (hD : Duo w tb rb v t L) (hx : x0 < 4294967296) (hlen : L.length ≤ 4000000000000) :
    Calls Try.prog 48 #[.pointer (some ⟨tb, 0, none⟩), .pointer (some ⟨rb, 0, none⟩), .agg (oCells k s x0 y0 A a)] w fun e w' => e = .returned (.bool true) ∧ Below w.heap.size w w' := by
  have hE : L = ents t := Same.eq hD.same hD.ris hD.tr.wf
  obtain ⟨m, hrow, hmt, hL⟩ := hD.tr.tree
  have HWF : Hid (WF top.x (top.x + top.s) m.tr) := by unfold Hid; rw [hmt]; exact hD.tr.wf
  have HNM : Hid (nodes m.tr ≤ 10000000000) := by
    have h := WF_nodes HWF.out
    rw [show top.x = 0 from rfl, top_s] at h
    unfold Hid; omega
  rw [← hmt] at hE
  obtain ⟨w1, HW1⟩ : ∃ w1, Hid (w1 = (w.alloc (.cells (oCells k s x0 y0 A a) 71)).alloc (.cells #[.bool false] 4)) := ⟨_, rfl⟩
  have hb1 : Below w.heap.size w w1 := by rw [HW1.out]; exact ((Below.refl _ _).alloc (Nat.le_refl _) _).alloc (by simp) _
  have hs1 : w1.heap.size = w.heap.size + 2 := by rw [HW1.out]; simp
  have ro : w1.heap[w.heap.size]? = some (.cells (oCells k s x0 y0 A a) 71) := by rw [HW1.out, Below.heap_alloc _ _ _ (by simp)]; exact heap_alloc_new w _
  have rr : w1.heap[w.heap.size + 1]? = some (.cells #[.bool false] 4) := by
    have h := heap_alloc_new (w.alloc (.cells (oCells k s x0 y0 A a) 71)) (.cells #[.bool false] 4)
    rw [World.size_alloc] at h
    rw [HW1.out]; exact h
  obtain ⟨w2, HW2⟩ : ∃ w2, Hid (w2 = (w1.alloc (.cells #[.pointer (some ⟨tb, 0, none⟩)] 24)).alloc (.cells #[.int .u32 ((0 : Nat) : Int), .int .i64 0] 31)) := ⟨_, rfl⟩
  have hb2 : Below w1.heap.size w1 w2 := by rw [HW2.out]; exact ((Below.refl _ _).alloc (Nat.le_refl _) _).alloc (by simp) _
  have ht2 : w2.heap[w1.heap.size]? = some (.cells #[.pointer (some ⟨tb, 0, none⟩)] 24) := by rw [HW2.out, Below.heap_alloc _ _ _ (by simp)]; exact heap_alloc_new w1 _
  have hp2 : w2.heap[w1.heap.size + 1]? = some (.cells #[.int .u32 ((0 : Nat) : Int), .int .i64 0] 31) := by
    have h := heap_alloc_new (w1.alloc (.cells #[.pointer (some ⟨tb, 0, none⟩)] 24)) (.cells #[.int .u32 ((0 : Nat) : Int), .int .i64 0] 31)
    rw [World.size_alloc] at h
    rw [HW2.out]; exact h
  have hb02 : Below w.heap.size w w2 := hb1.trans (hb2.mono hb1.size)
  have HSQ2 : Hid (SeqB w2 (fun b => b = tb) (w1.heap.size + 1) w1.heap.size tb 0 0 m) := ⟨hL.below hb02, hp2, ht2, below_keeps hb02 hrow (Array.getElem?_eq_some_iff.1 hrow).1⟩
  have HA1 := hid (all_new (tb := tb) w1)
  rw [← HW2.out] at HA1
  have HA2 := hid (allR_any w2 (hD.ref.below hb02) hlen)
  have HO2 : Hid (w2.heap[w.heap.size]? = some (.cells (oCells k s x0 y0 A a) 71) ∧ w2.heap[w.heap.size + 1]? = some (.cells #[.bool false] 4)) := ⟨below_keeps hb2 ro (by omega), below_keeps hb2 rr (by omega)⟩
  have HB02 := hid hb02
  have HS1 := hid hs1
  have HX0 := hid hx
  have HLE := hid hlen
  have HEL := hid hE
  have HROW := hid hrow
  have HLI := hid hL
  have HRF := hid hD.ref
  have HW1' : Hid (w1 = (w.alloc (.cells #[.int .i64 k, .int .i64 s, .int .u32 (x0 : Int), .int .i64 y0, .int .u32 (A : Int), .int .i64 a] 71)).alloc (.cells #[.bool false] 4)) := HW1.out
  unfold oCells
  clear hE hrow hL hb1 hs1 ro rr hb2 ht2 hp2 hb02 hD hx hlen hmt
  refine (callsIn_wide (n := 9)).1 ?_
  refine callsIn_of_wp_marks Try.func48 rfl trivial ?_ rfl
  refine wpIn_wide.2 ?_
  simp only [Try.ntmps48, List.size_toArray, List.length_cons, List.length_nil, Nat.reduceAdd, Nat.reduceSub, Array.replicate_succ, Array.replicate_zero, List.push_toArray, List.append_toArray, List.nil_append, List.cons_append]
  go_upto_region 1 with fail
  rw [← HW1'.out]
  go_wp2_with fail
  refine HA1.out.mono ?_
  rintro _ _ ⟨rfl, ew⟩
  obtain rfl := ew.symm
  go_wp2_with fail
  refine HA2.out.mono ?_
  rintro _ w3 ⟨⟨v3, rfl, ho3⟩, hb3⟩
  obtain ⟨ao3, n3, cap3, rfl, _, _, _⟩ := ho3.shape
  obtain ⟨w4, HW4⟩ : ∃ w4, Hid (w4 = w3.alloc (.cells #[.slice ao3 n3 cap3] 73)) := ⟨_, rfl⟩
  have hb4 : Below w3.heap.size w3 w4 := by rw [HW4.out]; exact (Below.refl _ _).alloc (Nat.le_refl _) _
  have hb24 : Below w2.heap.size w2 w4 := hb3.trans (hb4.mono hb3.size)
  obtain ⟨bw, HBW⟩ : ∃ bw, Hid (bw = w3.heap.size) := ⟨_, rfl⟩
  have HBG : Hid (w.heap.size ≤ bw) := by unfold Hid; rw [HBW.out]; exact Nat.le_trans HB02.out.size hb3.size
  have rw4 : w4.heap[bw]? = some (.cells #[.slice ao3 n3 cap3] 73) := by rw [HW4.out, HBW.out]; exact heap_alloc_new w3 _
  have HK4 : Hid (WkB w w4 bw (w1.heap.size + 1) w1.heap.size tb 0 0 m (.slice ao3 n3 cap3) (entsIn (ents m.tr) 0 0) (oCells k s x0 y0 A a)) := by
    refine ⟨HB02.out.trans (hb24.mono HB02.out.size), below_keeps hb24 HO2.out.1 (Array.getElem?_eq_some_iff.1 HO2.out.1).1, below_keeps hb24 HO2.out.2 (Array.getElem?_eq_some_iff.1 HO2.out.2).1, rw4, HSQ2.out.below hb24, ?_⟩
    rw [entsIn_all HWF.out, ← HEL.out]
    exact (ho3.below hb4).base HB02.out.size
  have x00 : w4.cell? ⟨w.heap.size, 0, none⟩ = some (.int .i64 k) := by rw [cell_of_row _ _ _ _ _ _ HK4.out.ob]; rfl
  clear ho3 hb3 hb4 hb24 rw4 HA1 HA2
  go_upto_region 3 with fail
  rw [← HW4.out, ← HBW.out]
  go_upto_if 20 with fail
  go_cut [7] from 14 (fun sq V => ∃ (pbx tbx x : Nat) (y : Int) (vw : Value), sq = .func (.func 41) #[] #[.pointer (some ⟨pbx, 0, none⟩), .pointer (some ⟨tbx, 0, none⟩)] ∧ Hid (x < 4294967296) ∧ Hid (WkB w V bw pbx tbx tb x y m vw (entsIn (ents m.tr) x y) (oCells k s x0 y0 A a)))
  case first =>
    by_cases h6 : k = 6
    · have z6 : (k == 6) = true := by simp [h6]
      clear h6
      obtain ⟨w5, HW5⟩ : ∃ w5, Hid (w5 = (w4.alloc (.cells #[.pointer (some ⟨tb, 0, none⟩)] 24)).alloc (.cells #[.int .u32 (x0 : Int), .int .i64 y0] 31)) := ⟨_, rfl⟩
      have hb5 : Below w4.heap.size w4 w5 := by rw [HW5.out]; exact ((Below.refl _ _).alloc (Nat.le_refl _) _).alloc (by simp) _
      have ht5 : w5.heap[w4.heap.size]? = some (.cells #[.pointer (some ⟨tb, 0, none⟩)] 24) := by rw [HW5.out, Below.heap_alloc _ _ _ (by simp)]; exact heap_alloc_new w4 _
      have hp5 : w5.heap[w4.heap.size + 1]? = some (.cells #[.int .u32 (x0 : Int), .int .i64 y0] 31) := by
        have h := heap_alloc_new (w4.alloc (.cells #[.pointer (some ⟨tb, 0, none⟩)] 24)) (.cells #[.int .u32 (x0 : Int), .int .i64 y0] 31)
        rw [World.size_alloc] at h
        rw [HW5.out]; exact h
      have hwb4 := HK4.out
      have hk5 := hwb4.below hb5
      have HK5 := hid hk5
      have HSQ5 : Hid (SeqB w5 (fun b => b = tb) (w4.heap.size + 1) w4.heap.size tb x0 y0 m) := ⟨hk5.sq.ls, hp5, ht5, hk5.sq.rt⟩
      have HN1 := hid (within_new (tb := tb) (x := x0) (y := y0) w4)
      rw [← HW5.out] at HN1
      have x2 : w4.cell? ⟨w.heap.size, 2, none⟩ = some (.int .u32 (x0 : Int)) := by rw [cell_of_row _ _ _ _ _ _ hwb4.ob]; rfl
      have x3 : w4.cell? ⟨w.heap.size, 3, none⟩ = some (.int .i64 y0) := by rw [cell_of_row _ _ _ _ _ _ hwb4.ob]; rfl
      have u2 : w5.cell? ⟨w.heap.size, 2, none⟩ = some (.int .u32 (x0 : Int)) := by rw [cell_of_row _ _ _ _ _ _ hk5.ob]; rfl
      have u3 : w5.cell? ⟨w.heap.size, 3, none⟩ = some (.int .i64 y0) := by rw [cell_of_row _ _ _ _ _ _ hk5.ob]; rfl
      have HN2 : Hid (Calls Try.prog 31 #[.pointer (some ⟨rb, 0, none⟩), qv x0 y0] w5 fun e w' => (∃ v', e = .returned v' ∧ OwnE w' w.heap.size v' (entsIn (ents m.tr) x0 y0)) ∧ Below w5.heap.size w5 w') := by
        have hR5 := HRF.out.below hk5.bel
        rcases bad_or (y := y0) HX0.out with hb | ⟨q, hq, rfl, rfl⟩
        · refine (withinR_bad w5 HX0.out hb).mono ?_
          rintro _ w6 ⟨rfl, hb6⟩
          refine ⟨⟨_, rfl, ?_⟩, hb6⟩
          unfold entsIn
          rw [valB_bad hb]
          exact World.ownsRow_nil _ _ _ _
        · refine (withinR_ok q w5 hR5 hq HLE.out).mono ?_
          rintro _ w6 ⟨⟨v', rfl, ho⟩, hb6⟩
          refine ⟨⟨_, rfl, ?_⟩, hb6⟩
          unfold entsIn
          rw [valB_ok hq, ← HEL.out]
          exact ho.base hk5.bel.size
      unfold qv at HN1 HN2
      clear hb5 ht5 hp5 hwb4 hk5 x00
      go_wp2_with fail
      refine HN1.out.mono ?_
      rintro _ _ ⟨rfl, ew⟩
      obtain rfl := ew.symm
      clear x2 x3
      have wtf : ∀ W, Below w5.heap.size w5 W → W.frozen? ⟨bw, 0, none⟩ = false ∧ W.cell? ⟨bw, 0, none⟩ = some (.slice ao3 n3 cap3) := fun W hW => by
        have h := (HK5.out.below hW).wt
        exact ⟨frozen_of_row _ _ _ _ _ h, by rw [cell_of_row _ _ _ _ _ _ h]; rfl⟩
      have WTF := hid wtf
      clear wtf
      go_wp2_with fail
      refine HN2.out.mono ?_
      rintro _ w6 ⟨⟨v6, rfl, ho6⟩, hb6⟩
      obtain ⟨ao6, n6, cap6, rfl, _, _, _⟩ := ho6.shape
      obtain ⟨f6, c6⟩ := WTF.out w6 hb6
      obtain ⟨w7, HW7⟩ : ∃ w7, Hid (w7 = w6.setCell ⟨bw, 0, none⟩ (.slice ao6 n6 cap6)) := ⟨_, rfl⟩
      have HK7 : Hid (WkB w w7 bw (w4.heap.size + 1) w4.heap.size tb x0 y0 m (.slice ao6 n6 cap6) (entsIn (ents m.tr) x0 y0) (oCells k s x0 y0 A a)) := by
        have h6 := HK5.out.below hb6
        have hs6 := HSQ5.out.below hb6
        have bt : But bw w6 w7 := by rw [HW7.out]; exact But.set _ _ _ _
        have hge : w.heap.size ≤ bw := HBG.out
        have kne : ∀ {b : Nat} {cs : Array Value} {t : TypeId}, w6.heap[b]? = some (.cells cs t) → t ≠ 73 → w7.heap[b]? = some (.cells cs t) := fun hb' hne => (bt.block _ (Array.getElem?_eq_some_iff.1 hb').1 (kinds_ne hb' h6.wt hne)).trans hb'
        have nt : NoTree w6 (fun b => b = bw) := fun b hb => by subst hb; exact kind_no h6.wt (by decide) (by decide)
        refine ⟨bt.below h6.bel h6.bel.size hge, kne h6.ob (by decide), kne h6.rs (by decide), ?_, ⟨hs6.ls.chgT nt (Chg.of_but bt rfl), kne hs6.pb (by decide), kne hs6.tx (by decide), kne hs6.rt (by decide)⟩, ?_⟩
        · rw [HW7.out]; exact set_row h6.wt
        · refine ho6.chg (Z := fun b => b = bw) (fun b hb e => ?_) (Chg.of_but bt rfl)
          obtain ⟨cs, hk⟩ := ho6.kind hb
          exact kinds_ne hk h6.wt (by decide) e
      clear ho6 hb6
      go_wp2_with fail
      rw [← HW7.out]
      go_meet
      case rel => exact ⟨_, _, _, _, _, rfl, HX0, HK7⟩
    · have z6 : (k == 6) = false := by simp [h6]
      clear h6
      go_wp2_with fail
      go_meet
      case rel => exact ⟨_, _, _, _, _, rfl, by unfold Hid; omega, HK4⟩
  case rest =>
    obtain ⟨pbx, tbx, x, y, vw, rfl, HX, HKV⟩ := hcut
    rename World => V
    clear HK4 HSQ2 HO2 x00
    obtain ⟨V0, HV0⟩ : ∃ V0, Hid (V0 = V.alloc (.cells #[.int .i64 0] 3)) := ⟨_, rfl⟩
    have hbV : Below V.heap.size V V0 := by rw [HV0.out]; exact (Below.refl _ _).alloc (Nat.le_refl _) _
    have HKV0 := hid (HKV.out.below hbV)
    obtain ⟨rbx0, Hrbx0⟩ : ∃ q, Hid (q = V.heap.size) := ⟨_, rfl⟩
    have RR0 : Hid (V0.heap[rbx0]? = some (.cells #[.int .i64 0] 3)) := by unfold Hid; rw [HV0.out, Hrbx0.out]; exact heap_alloc_new V _
    have HSZ0 : Hid (w.heap.size + 2 ≤ V0.heap.size) := by have h := (Array.getElem?_eq_some_iff.1 HKV0.out.rs).1; unfold Hid; omega
    clear hbV
    have hqf := eq_seq 41 #[] #[.pointer (some ⟨pbx, 0, none⟩), .pointer (some ⟨tbx, 0, none⟩)]
    go_upto_region 9 with fail
    clear hqf
    rw [← HV0.out, ← Hrbx0.out]
    refine wp_loop_rounds 6 ?_
    rw [rounds_succ]
    have q0 : V0.cell? ⟨rbx0, 0, none⟩ = some (.int .i64 0) := by rw [cell_of_row _ _ _ _ _ _ RR0.out]; rfl
    obtain ⟨U0, HU0⟩ : ∃ U0, Hid (U0 = (V0.alloc (.cells #[.int .i64 0] 3)).alloc (.cells #[.bool false] 4)) := ⟨_, rfl⟩
    have HSU0 : Hid (U0.heap.size = V0.heap.size + 2) := by unfold Hid; rw [HU0.out]; simp
    have HBU0 : Hid (Below V0.heap.size V0 U0) := by rw [HU0.out]; exact ((Below.refl _ _).alloc (Nat.le_refl _) _).alloc (by simp) _
    have RNU0 : Hid (U0.heap[V0.heap.size]? = some (.cells #[.int .i64 ((0 : Nat) : Int)] 3)) := by
      unfold Hid; rw [HU0.out, Below.heap_alloc _ _ _ (by simp)]; exact heap_alloc_new V0 _
    have RLU0 : Hid (U0.heap[V0.heap.size + 1]? = some (.cells #[.bool false] 4)) := by
      have h := heap_alloc_new (V0.alloc (.cells #[.int .i64 0] 3)) (.cells #[.bool false] 4)
      rw [World.size_alloc] at h
      unfold Hid; rw [HU0.out]; exact h
    go_upto_region 13 with fail
    rw [← HU0.out]
    go_wp2_with fail
    refine wpIn_wide.1 (wpIn_givesU (β := Nat) (n := 9) (F := Fence.wide) rfl (by omega) (gf := 41) (lb := #[.pointer (some ⟨pbx, 0, none⟩), .pointer (some ⟨tbx, 0, none⟩)]) rfl trivial (enters_of Try.func41 (by kernel_rfl) rfl)
      (seq_gives 8 (by omega) (fun b => b = tb) pbx tbx tb x y m HX.out HWF.out HNM.out) (fun _ => rfl)
      (fun i W => U0.heap.size ≤ W.heap.size ∧ Below V0.heap.size V0 W ∧ W.heap[V0.heap.size]? = some (.cells #[.int .i64 (i : Int)] 3) ∧ W.heap[V0.heap.size + 1]? = some (.cells #[.bool false] 4))
      (fun c W => c = .exit 2 ∧ U0.heap.size ≤ W.heap.size ∧ Below V0.heap.size V0 W ∧ (∃ i : Int, W.heap[V0.heap.size]? = some (.cells #[.int .i64 i] 3)) ∧ W.heap[V0.heap.size + 1]? = some (.cells #[.bool true] 4)) ?hI0 ?hIx0 ?hF0 ?h00
      (fun e b tt => (((tt.setIfInBounds 36 (pv e.1)).setIfInBounds 37 (.int .i64 e.2)).setIfInBounds 12 (.pointer (some ⟨b, 0, none⟩))).setIfInBounds 13 (.int .i64 e.2)) (fun e b W => U0.heap.size ≤ b ∧ W.heap[b]? = some (.cells #[.int .u32 (e.1.x : Int), .int .i64 (e.1.n : Int)] 31)) ?hAy0 ?assign0 ?body0 ?done0 ?stop0)
    case hI0 =>
      refine ownN_below (fun i W hi => hi.1) ?_
      rintro i W W' ⟨i1, i2, i3, i4⟩ hb
      have hs := HSU0.out
      exact ⟨Nat.le_trans i1 hb.size, i2.trans (hb.mono (by omega)), below_keeps hb i3 (by omega), below_keeps hb i4 (by omega)⟩
    case hIx0 =>
      refine ownN_below (fun c W hi => hi.2.1) ?_
      rintro c W W' ⟨i0, i1, i2, ⟨i, i3⟩, i4⟩ hb
      have hs := HSU0.out
      exact ⟨i0, Nat.le_trans i1 hb.size, i2.trans (hb.mono (by omega)), ⟨i, below_keeps hb i3 (by omega)⟩, below_keeps hb i4 (by omega)⟩
    case hF0 =>
      rintro i W ⟨i1, i2, i3, i4⟩
      exact HKV0.out.sq.below i2
    case h00 => exact ⟨Nat.le_refl _, HBU0.out, RNU0.out, RLU0.out⟩
    case hAy0 =>
      rintro e b _ W W' row ⟨h1, h2⟩ hg hr
      refine ⟨h1, (hg.block _ (Array.getElem?_eq_some_iff.1 h2).1 (fun he => ?_)).trans h2⟩
      obtain ⟨_, o, ho, hm⟩ := hr b he.symm
      rw [h2] at ho
      cases ho
      rcases hm with hm | ⟨cs, hm⟩ | ⟨cs, hm⟩
      · cases hm
      · injection hm with _ hm; exact absurd hm (by decide)
      · injection hm with _ hm; exact absurd hm (by decide)
    case assign0 =>
      intro l i e W K hi hx hK
      obtain ⟨W2, HW2⟩ : ∃ W2, Hid (W2 = W.alloc (.cells #[.int .u32 (e.1.x : Int), .int .i64 (e.1.n : Int)] 31)) := ⟨_, rfl⟩
      have hbW : Below W.heap.size W W2 := by rw [HW2.out]; exact (Below.refl _ _).alloc (Nat.le_refl _) _
      have hrW : W2.heap[W.heap.size]? = some (.cells #[.int .u32 (e.1.x : Int), .int .i64 (e.1.n : Int)] 31) := by rw [HW2.out]; exact heap_alloc_new W _
      obtain ⟨i1, i2, i3, i4⟩ := hi
      have hs := HSU0.out
      have HK := hK W.heap.size W2 (KeepsN.of_below hbW) ⟨Nat.le_trans i1 hbW.size, i2.trans (hbW.mono i2.size), below_keeps hbW i3 (by omega), below_keeps hbW i4 (by omega)⟩ ⟨i1, hrW⟩
      unfold pv at HK ⊢
      simp only [List.setIfInBounds_toArray, List.set_cons_zero, List.set_cons_succ] at HK ⊢
      clear hK i1 i2 i3 i4 hx hbW hrW
      gi_wp2
      rw [← HW2.out]
      exact HK
    case body0 =>
      rintro l i e b W hl _ ⟨i1, i2, i3, i4⟩ ⟨j1, j2⟩ hx
      have hwb := HKV0.out.below i2
      have hs := HSU0.out
      obtain ⟨ek, ev⟩ := e
      simp only at j2
      have p0 : W.cell? ⟨b, 0, none⟩ = some (.int .u32 (ek.x : Int)) := by rw [cell_of_row _ _ _ _ _ _ j2]; rfl
      have p1 : W.cell? ⟨b, 1, none⟩ = some (.int .i64 (ek.n : Int)) := by rw [cell_of_row _ _ _ _ _ _ j2]; rfl
      have n0 : W.cell? ⟨V0.heap.size, 0, none⟩ = some (.int .i64 (i : Int)) := by rw [cell_of_row _ _ _ _ _ _ i3]; rfl
      have nf : W.frozen? ⟨V0.heap.size, 0, none⟩ = false := frozen_of_row _ _ _ _ _ i3
      have l0 : W.cell? ⟨V0.heap.size + 1, 0, none⟩ = some (.bool false) := by rw [cell_of_row _ _ _ _ _ _ i4]; rfl
      have lf : W.frozen? ⟨V0.heap.size + 1, 0, none⟩ = false := frozen_of_row _ _ _ _ _ i4
      have r0 : W.cell? ⟨rbx0, 0, none⟩ = some (.int .i64 0) := by rw [cell_of_row _ _ _ _ _ _ (below_keeps i2 RR0.out (Array.getElem?_eq_some_iff.1 RR0.out).1)]; rfl
      have o5 : W.cell? ⟨w.heap.size, 5, none⟩ = some (.int .i64 a) := by rw [cell_of_row _ _ _ _ _ _ hwb.ob]; rfl
      obtain ⟨ao, nE, cap, hvw, HNE, hnc, hcm⟩ := hwb.en.shape
      have hin : i < nE := by have h1 := (List.getElem?_eq_some_iff.1 hx).1; have h2 := HNE.out; omega
      have hwt := hwb.wt
      have hen := hwb.en
      rw [hvw] at hwt hen
      have wt0 : W.cell? ⟨bw, 0, none⟩ = some (.slice ao nE cap) := by rw [cell_of_row _ _ _ _ _ _ hwt]; rfl
      obtain ⟨g, f, hao, hg, hf, c0, c1, c2⟩ := hen.at i hin
      rw [hx] at hf
      obtain rfl := Option.some.inj hf
      subst hao
      simp only at c0 c1 c2
      have b1 : ¬ ((nE : Int) ≤ (i : Int)) := by omega
      have b2 : (i : Int) < (nE : Int) := by omega
      have b3 : (0 : Int) ≤ (i : Int) := by omega
      have hq : ∀ u : World, (Op.equalIn 10000 31 (.agg #[.int .u32 (ek.x : Int), .int .i64 (ek.n : Int)]) (.agg #[.int .u32 (ek.x : Int), .int .i64 (ek.n : Int)])).run Try.prog u = .ok true u := fun u => (eqK ek ek u).trans (by simp)
      unfold maxLen at hcm
      have hmax : (i : Int) ≤ 9223372036854775806 := by omega
      have HFIN : Hid (∀ Wc, Wc.heap = (W.setCell ⟨V0.heap.size, 0, none⟩ (.int .i64 ((i : Int) + 1))).heap → Wc.os = W.os → Wc.tape = W.tape → Wc.output = W.output → KeepsN U0.heap.size W Wc ∧ U0.heap.size ≤ Wc.heap.size ∧ Below V0.heap.size V0 Wc ∧ Wc.heap[V0.heap.size]? = some (.cells #[.int .i64 ((i + 1 : Nat) : Int)] 3) ∧ Wc.heap[V0.heap.size + 1]? = some (.cells #[.bool false] 4)) := fun Wc hh h1 h2 h3 => by
        have bt : But V0.heap.size W (W.setCell ⟨V0.heap.size, 0, none⟩ (.int .i64 ((i : Int) + 1))) := But.set _ _ _ _
        have hsz : W.heap.size ≤ Wc.heap.size := by rw [hh]; exact bt.size
        have hbl : ∀ j, j < W.heap.size → j ≠ V0.heap.size → Wc.heap[j]? = W.heap[j]? := fun j hj hn => by rw [hh]; exact bt.block j hj hn
        refine ⟨⟨hsz, fun j o hj ho _ => (hbl j (Array.getElem?_eq_some_iff.1 ho).1 (by omega)).trans ho⟩, Nat.le_trans i1 hsz, ⟨h1.trans i2.os, h2.trans i2.tape, h3.trans i2.output, Nat.le_trans i2.size hsz, fun j hj => (hbl j (by omega) (by omega)).trans (i2.block j hj)⟩, ?_, (hbl _ (by omega) (by omega)).trans i4⟩
        rw [hh, set_row i3]
        rfl
      have HST : Hid (∀ Wc, Wc.heap = (W.setCell ⟨V0.heap.size + 1, 0, none⟩ (.bool true)).heap → Wc.os = W.os → Wc.tape = W.tape → Wc.output = W.output → KeepsN U0.heap.size W Wc ∧ U0.heap.size ≤ Wc.heap.size ∧ Below V0.heap.size V0 Wc ∧ (∃ i : Int, Wc.heap[V0.heap.size]? = some (.cells #[.int .i64 i] 3)) ∧ Wc.heap[V0.heap.size + 1]? = some (.cells #[.bool true] 4)) := fun Wc hh h1 h2 h3 => by
        have bt : But (V0.heap.size + 1) W (W.setCell ⟨V0.heap.size + 1, 0, none⟩ (.bool true)) := But.set _ _ _ _
        have hsz : W.heap.size ≤ Wc.heap.size := by rw [hh]; exact bt.size
        have hbl : ∀ j, j < W.heap.size → j ≠ V0.heap.size + 1 → Wc.heap[j]? = W.heap[j]? := fun j hj hn => by rw [hh]; exact bt.block j hj hn
        refine ⟨⟨hsz, fun j o hj ho _ => (hbl j (Array.getElem?_eq_some_iff.1 ho).1 (by omega)).trans ho⟩, Nat.le_trans i1 hsz, ⟨h1.trans i2.os, h2.trans i2.tape, h3.trans i2.output, Nat.le_trans i2.size hsz, fun j hj => (hbl j (by omega) (by omega)).trans (i2.block j hj)⟩, ⟨(i : Int), (hbl _ (by omega) (by omega)).trans i3⟩, ?_⟩
        rw [hh, set_row i4]
        rfl
      clear hwb i1 i2 i3 i4 j1 j2 hwt hen hf hx hs hg
      by_cases hstop : (i : Int) = a
      · have z1 : ((i : Int) == a) = true := by simp [hstop]
        clear hstop HFIN c0 c1 c2 hq
        simp only [pv, List.setIfInBounds_toArray, List.set_cons_zero, List.set_cons_succ]
        gi_wp2
        obtain ⟨s1, s2, s3, s4, s5⟩ := HST.out _ (by rfl) (by rfl) (by rfl) (by rfl)
        exact ⟨s1, rfl, s2, s3, s4, s5⟩
      · have z1 : ((i : Int) == a) = false := by simp [hstop]
        clear hstop HST
        simp only [pv, List.setIfInBounds_toArray, List.set_cons_zero, List.set_cons_succ]
        gi_wp2
        refine wpIn_region_guarded' 21 (fun i => 46 + i) (FL [some (.int .i64 (i : Int)), some (.slice (some ⟨g, 0, none⟩) nE cap), some (.int .i64 (nE : Int)), some (.bool false), some (.bool false), some (.agg #[.int .u32 (ek.x : Int), .int .i64 (ek.n : Int)]), some (.slice (some ⟨g, 0, none⟩) nE cap), some (.int .i64 (i : Int)), some (.pointer (some ⟨g, i * 3, none⟩)), some (.pointer (some ⟨g, i * 3, none⟩)), some (.agg #[.int .u32 (ek.x : Int), .int .i64 (ek.n : Int)]), some (.bool false), some (.bool false), some (.bool false), some (.int .i64 ev), some (.slice (some ⟨g, 0, none⟩) nE cap), some (.int .i64 (i : Int)), some (.pointer (some ⟨g, i * 3, none⟩)), some (.pointer (some ⟨g, i * 3 + 2, none⟩)), some (.int .i64 ev), some (.bool false)]) (fun u => u = W.drew) (fun _ u u' => u' = u) (by kernel_rfl) (by kernel_rfl) rfl (fun _ _ _ _ _ _ h _ _ => h) ?_ ?_
        · simp only [List.take_succ_cons, List.take_zero, N.stepsG]
          refine ⟨?_, ?_, ?_, ?_, ?_, ?_, ?_, ?_, ?_, ?_, ?_, ?_, ?_, ?_, ?_, ?_, ?_, ?_, ?_, ?_, ?_, trivial⟩
          · intro a' u vs hI hold hdep
            obtain rfl : u = W.drew := hI
            exact opAt_plain rfl (wpIn_val (fun _ h => by cases h) (ex_load _ ⟨V0.heap.size, 0, none⟩ (.tmp 10) _ rfl (hold 10 (fun j hj => low (by decide))) (load_in n0)) ⟨_, rfl, fun x hx => Option.some.inj (Option.some.inj hx), rfl, rfl⟩)
          · intro a' u vs hI hold hdep
            obtain rfl : u = W.drew := hI
            exact opAt_plain rfl (wpIn_val (fun _ h => by cases h) (ex_load _ ⟨bw, 0, none⟩ (.tmp 8) _ rfl (hold 8 (fun j hj => low (by decide))) (load_sE wt0)) ⟨_, rfl, fun x hx => Option.some.inj (Option.some.inj hx), rfl, rfl⟩)
          · intro a' u vs hI hold hdep
            obtain rfl : u = W.drew := hI
            have h1 := hdep ⟨1, .data⟩ (by simp) rfl (by decide)
            have e1 := h1.1.trans (h1.2 _ rfl)
            exact opAt_plain rfl (wpIn_val (fun _ h => by cases h) (ex_len 47 _ _ _ rfl e1) ⟨_, rfl, fun x hx => Option.some.inj (Option.some.inj hx), rfl, rfl⟩)
          · intro a' u vs hI hold hdep
            obtain rfl : u = W.drew := hI
            have h0 := hdep ⟨0, .data⟩ (by simp) rfl (by decide)
            have e0 := h0.1.trans (h0.2 _ rfl)
            have h2 := hdep ⟨2, .data⟩ (by simp) rfl (by decide)
            have e2 := h2.1.trans (h2.2 _ rfl)
            exact opAt_plain rfl (wpIn_val (fun _ h => by cases h) (ex_geq (.tmp 46) (.tmp 48) _ _ _ rfl e0 e2 (decide_eq_false (by omega))) ⟨_, rfl, fun x hx => Option.some.inj (Option.some.inj hx), rfl, rfl⟩)
          · intro a' u vs hI hold hdep
            obtain rfl : u = W.drew := hI
            have h3 := hdep ⟨3, .data⟩ (by simp) rfl (by decide)
            have e3 := h3.1.trans (h3.2 _ rfl)
            exact opAt_plain rfl (wpIn_val (fun _ h => by cases h) (ex_move (.tmp 49) _ rfl e3) ⟨_, rfl, fun x hx => Option.some.inj (Option.some.inj hx), rfl, rfl⟩)
          · intro a' u vs hI hold hdep
            obtain rfl : u = W.drew := hI
            have hg := hdep ⟨4, .guard⟩ (by simp) rfl (by decide)
            have eg := hg.1.trans (hg.2 _ rfl)
            exact opAt_go (j := 4) (t := 50) (b := false) rfl rfl eg (wpIn_val (fun _ h => by cases h) (ex_load _ ⟨b, 0, none⟩ (.tmp 12) _ rfl (hold 12 (fun j hj => low (by decide))) (load_pre p0 p1)) ⟨_, rfl, fun x hx => Option.some.inj (Option.some.inj hx), rfl, rfl⟩)
          · intro a' u vs hI hold hdep
            obtain rfl : u = W.drew := hI
            have hg := hdep ⟨4, .guard⟩ (by simp) rfl (by decide)
            have eg := hg.1.trans (hg.2 _ rfl)
            exact opAt_go (j := 4) (t := 50) (b := false) rfl rfl eg (wpIn_val (fun _ h => by cases h) (ex_load _ ⟨bw, 0, none⟩ (.tmp 8) _ rfl (hold 8 (fun j hj => low (by decide))) (load_sE wt0)) ⟨_, rfl, fun x hx => Option.some.inj (Option.some.inj hx), rfl, rfl⟩)
          · intro a' u vs hI hold hdep
            obtain rfl : u = W.drew := hI
            have hg := hdep ⟨4, .guard⟩ (by simp) rfl (by decide)
            have eg := hg.1.trans (hg.2 _ rfl)
            exact opAt_go (j := 4) (t := 50) (b := false) rfl rfl eg (wpIn_val (fun _ h => by cases h) (ex_load _ ⟨V0.heap.size, 0, none⟩ (.tmp 10) _ rfl (hold 10 (fun j hj => low (by decide))) (load_in n0)) ⟨_, rfl, fun x hx => Option.some.inj (Option.some.inj hx), rfl, rfl⟩)
          · intro a' u vs hI hold hdep
            obtain rfl : u = W.drew := hI
            have hg := hdep ⟨4, .guard⟩ (by simp) rfl (by decide)
            have eg := hg.1.trans (hg.2 _ rfl)
            have h6 := hdep ⟨6, .data⟩ (by simp) rfl (by decide)
            have e6 := h6.1.trans (h6.2 _ rfl)
            have h7 := hdep ⟨7, .data⟩ (by simp) rfl (by decide)
            have e7 := h7.1.trans (h7.2 _ rfl)
            exact opAt_go (j := 4) (t := 50) (b := false) rfl rfl eg (wpIn_val (fun _ h => by cases h) (ex_index _ (.tmp 52) (.tmp 53) _ _ _ rfl e6 e7 (idx_en hin _)) ⟨_, rfl, fun x hx => Option.some.inj (Option.some.inj hx), rfl, rfl⟩)
          · intro a' u vs hI hold hdep
            obtain rfl : u = W.drew := hI
            have hg := hdep ⟨4, .guard⟩ (by simp) rfl (by decide)
            have eg := hg.1.trans (hg.2 _ rfl)
            have h8 := hdep ⟨8, .data⟩ (by simp) rfl (by decide)
            have e8 := h8.1.trans (h8.2 _ rfl)
            exact opAt_go (j := 4) (t := 50) (b := false) rfl rfl eg (wpIn_val (fun _ h => by cases h) (ex_field _ _ (.tmp 54) 0 _ rfl e8 (fld_rE _).1) ⟨_, rfl, fun x hx => Option.some.inj (Option.some.inj hx), rfl, rfl⟩)
          · intro a' u vs hI hold hdep
            obtain rfl : u = W.drew := hI
            have hg := hdep ⟨4, .guard⟩ (by simp) rfl (by decide)
            have eg := hg.1.trans (hg.2 _ rfl)
            have h9 := hdep ⟨9, .data⟩ (by simp) rfl (by decide)
            have e9 := h9.1.trans (h9.2 _ rfl)
            exact opAt_go (j := 4) (t := 50) (b := false) rfl rfl eg (wpIn_val (fun _ h => by cases h) (ex_load _ ⟨g, i * 3, none⟩ (.tmp 55) _ rfl e9 (load_pre c0 c1)) ⟨_, rfl, fun x hx => Option.some.inj (Option.some.inj hx), rfl, rfl⟩)
          · intro a' u vs hI hold hdep
            obtain rfl : u = W.drew := hI
            have hg := hdep ⟨4, .guard⟩ (by simp) rfl (by decide)
            have eg := hg.1.trans (hg.2 _ rfl)
            have h5 := hdep ⟨5, .data⟩ (by simp) rfl (by decide)
            have e5 := h5.1.trans (h5.2 _ rfl)
            have h10 := hdep ⟨10, .data⟩ (by simp) rfl (by decide)
            have e10 := h10.1.trans (h10.2 _ rfl)
            exact opAt_go (j := 4) (t := 50) (b := false) rfl rfl eg (wpIn_val (fun _ h => by cases h) (ex_neqK (.tmp 51) (.tmp 56) ek rfl e5 e10) ⟨_, rfl, fun x hx => Option.some.inj (Option.some.inj hx), rfl, rfl⟩)
          · intro a' u vs hI hold hdep
            obtain rfl : u = W.drew := hI
            have h4 := hdep ⟨4, .data⟩ (by simp) rfl (by decide)
            have e4 := h4.1.trans (h4.2 _ rfl)
            have h11 := hdep ⟨11, .data⟩ (by simp) rfl (by decide)
            have e11 := h11.1.trans (h11.2 _ rfl)
            exact opAt_plain rfl (wpIn_val (fun _ h => by cases h) (ex_pickF (.tmp 50) (.tmp 57) _ rfl e4 e11) ⟨_, rfl, fun x hx => Option.some.inj (Option.some.inj hx), rfl, rfl⟩)
          · intro a' u vs hI hold hdep
            obtain rfl : u = W.drew := hI
            have h12 := hdep ⟨12, .data⟩ (by simp) rfl (by decide)
            have e12 := h12.1.trans (h12.2 _ rfl)
            exact opAt_plain rfl (wpIn_val (fun _ h => by cases h) (ex_move (.tmp 58) _ rfl e12) ⟨_, rfl, fun x hx => Option.some.inj (Option.some.inj hx), rfl, rfl⟩)
          · intro a' u vs hI hold hdep
            obtain rfl : u = W.drew := hI
            have hg := hdep ⟨13, .guard⟩ (by simp) rfl (by decide)
            have eg := hg.1.trans (hg.2 _ rfl)
            exact opAt_go (j := 13) (t := 59) (b := false) rfl rfl eg (wpIn_val (fun _ h => by cases h) (ex_move (.tmp 13) _ rfl (hold 13 (fun j hj => low (by decide)))) ⟨_, rfl, fun x hx => Option.some.inj (Option.some.inj hx), rfl, rfl⟩)
          · intro a' u vs hI hold hdep
            obtain rfl : u = W.drew := hI
            have hg := hdep ⟨13, .guard⟩ (by simp) rfl (by decide)
            have eg := hg.1.trans (hg.2 _ rfl)
            exact opAt_go (j := 13) (t := 59) (b := false) rfl rfl eg (wpIn_val (fun _ h => by cases h) (ex_load _ ⟨bw, 0, none⟩ (.tmp 8) _ rfl (hold 8 (fun j hj => low (by decide))) (load_sE wt0)) ⟨_, rfl, fun x hx => Option.some.inj (Option.some.inj hx), rfl, rfl⟩)
          · intro a' u vs hI hold hdep
            obtain rfl : u = W.drew := hI
            have hg := hdep ⟨13, .guard⟩ (by simp) rfl (by decide)
            have eg := hg.1.trans (hg.2 _ rfl)
            exact opAt_go (j := 13) (t := 59) (b := false) rfl rfl eg (wpIn_val (fun _ h => by cases h) (ex_load _ ⟨V0.heap.size, 0, none⟩ (.tmp 10) _ rfl (hold 10 (fun j hj => low (by decide))) (load_in n0)) ⟨_, rfl, fun x hx => Option.some.inj (Option.some.inj hx), rfl, rfl⟩)
          · intro a' u vs hI hold hdep
            obtain rfl : u = W.drew := hI
            have hg := hdep ⟨13, .guard⟩ (by simp) rfl (by decide)
            have eg := hg.1.trans (hg.2 _ rfl)
            have h15 := hdep ⟨15, .data⟩ (by simp) rfl (by decide)
            have e15 := h15.1.trans (h15.2 _ rfl)
            have h16 := hdep ⟨16, .data⟩ (by simp) rfl (by decide)
            have e16 := h16.1.trans (h16.2 _ rfl)
            exact opAt_go (j := 13) (t := 59) (b := false) rfl rfl eg (wpIn_val (fun _ h => by cases h) (ex_index _ (.tmp 61) (.tmp 62) _ _ _ rfl e15 e16 (idx_en hin _)) ⟨_, rfl, fun x hx => Option.some.inj (Option.some.inj hx), rfl, rfl⟩)
          · intro a' u vs hI hold hdep
            obtain rfl : u = W.drew := hI
            have hg := hdep ⟨13, .guard⟩ (by simp) rfl (by decide)
            have eg := hg.1.trans (hg.2 _ rfl)
            have h17 := hdep ⟨17, .data⟩ (by simp) rfl (by decide)
            have e17 := h17.1.trans (h17.2 _ rfl)
            exact opAt_go (j := 13) (t := 59) (b := false) rfl rfl eg (wpIn_val (fun _ h => by cases h) (ex_field _ _ (.tmp 63) 1 _ rfl e17 (fld_rE _).2) ⟨_, rfl, fun x hx => Option.some.inj (Option.some.inj hx), rfl, rfl⟩)
          · intro a' u vs hI hold hdep
            obtain rfl : u = W.drew := hI
            have hg := hdep ⟨13, .guard⟩ (by simp) rfl (by decide)
            have eg := hg.1.trans (hg.2 _ rfl)
            have h18 := hdep ⟨18, .data⟩ (by simp) rfl (by decide)
            have e18 := h18.1.trans (h18.2 _ rfl)
            exact opAt_go (j := 13) (t := 59) (b := false) rfl rfl eg (wpIn_val (fun _ h => by cases h) (ex_load _ ⟨g, i * 3 + 2, none⟩ (.tmp 64) _ rfl e18 (load_in c2)) ⟨_, rfl, fun x hx => Option.some.inj (Option.some.inj hx), rfl, rfl⟩)
          · intro a' u vs hI hold hdep
            obtain rfl : u = W.drew := hI
            have hg := hdep ⟨13, .guard⟩ (by simp) rfl (by decide)
            have eg := hg.1.trans (hg.2 _ rfl)
            have h14 := hdep ⟨14, .data⟩ (by simp) rfl (by decide)
            have e14 := h14.1.trans (h14.2 _ rfl)
            have h19 := hdep ⟨19, .data⟩ (by simp) rfl (by decide)
            have e19 := h19.1.trans (h19.2 _ rfl)
            exact opAt_go (j := 13) (t := 59) (b := false) rfl rfl eg (wpIn_val (fun _ h => by cases h) (ex_neqI (.tmp 60) (.tmp 65) _ rfl e14 e19) ⟨_, rfl, fun x hx => Option.some.inj (Option.some.inj hx), rfl, rfl⟩)
        intro vs V2 hV2 hF
        subst hV2
        have f0 := hF 0 (by decide) _ rfl
        have f1 := hF 1 (by decide) _ rfl
        have f2 := hF 2 (by decide) _ rfl
        have f3 := hF 3 (by decide) _ rfl
        have f4 := hF 4 (by decide) _ rfl
        have f5 := hF 5 (by decide) _ rfl
        have f6 := hF 6 (by decide) _ rfl
        have f7 := hF 7 (by decide) _ rfl
        have f8 := hF 8 (by decide) _ rfl
        have f9 := hF 9 (by decide) _ rfl
        have f10 := hF 10 (by decide) _ rfl
        have f11 := hF 11 (by decide) _ rfl
        have f12 := hF 12 (by decide) _ rfl
        have f13 := hF 13 (by decide) _ rfl
        have f14 := hF 14 (by decide) _ rfl
        have f15 := hF 15 (by decide) _ rfl
        have f16 := hF 16 (by decide) _ rfl
        have f17 := hF 17 (by decide) _ rfl
        have f18 := hF 18 (by decide) _ rfl
        have f19 := hF 19 (by decide) _ rfl
        have f20 := hF 20 (by decide) _ rfl
        simp only [List.drop_succ_cons, List.drop_zero, puts, List.range, List.range.loop, List.foldr, Nat.reduceAdd, if_true, f0, f1, f2, f3, f4, f5, f6, f7, f8, f9, f10, f11, f12, f13, f14, f15, f16, f17, f18, f19, f20, Act.put, List.setIfInBounds_toArray, List.set_cons_zero, List.set_cons_succ]
        clear hF f0 f1 f2 f3 f4 f5 f6 f7 f8 f9 f10 f11 f12 f13 f14 f15 f16 f17 f18 f19 f20
        gi_wp2
        exact HFIN.out _ (by rfl) (by rfl) (by rfl) (by rfl)
    case done0 =>
      rintro D0 W hD ⟨i1, i2, i3, i4⟩ hK
      have hwb := HKV0.out.below i2
      have n0 : W.cell? ⟨V0.heap.size, 0, none⟩ = some (.int .i64 ((entsIn (ents m.tr) x y).length : Int)) := by rw [cell_of_row _ _ _ _ _ _ i3]; rfl
      have l0 : W.cell? ⟨V0.heap.size + 1, 0, none⟩ = some (.bool false) := by rw [cell_of_row _ _ _ _ _ _ i4]; rfl
      have r0 : W.cell? ⟨rbx0, 0, none⟩ = some (.int .i64 0) := by rw [cell_of_row _ _ _ _ _ _ (below_keeps i2 RR0.out (Array.getElem?_eq_some_iff.1 RR0.out).1)]; rfl
      obtain ⟨ao, nE, cap, hvw, HNE, hnc, hcm⟩ := hwb.en.shape
      have hwt := hwb.wt
      rw [hvw] at hwt
      have wt0 : W.cell? ⟨bw, 0, none⟩ = some (.slice ao nE cap) := by rw [cell_of_row _ _ _ _ _ _ hwt]; rfl
      rw [← HNE.out] at n0
      obtain ⟨Z0, HZ0⟩ : ∃ Z0, Hid (Z0 = W.alloc (.cells #[.int .i64 1] 3)) := ⟨_, rfl⟩
      have hbZ0 : Below W.heap.size W Z0 := by rw [HZ0.out]; exact (Below.refl _ _).alloc (Nat.le_refl _) _
      have HKZ0 := hid (hwb.below hbZ0)
      have RR1 : Hid (Z0.heap[W.heap.size]? = some (.cells #[.int .i64 1] 3)) := by rw [HZ0.out]; exact heap_alloc_new W _
      have HD0Z0 : Hid (Z0.heap[D0]? = some (.deferred (some []))) := below_keeps hbZ0 hK (Array.getElem?_eq_some_iff.1 hK).1
      have HDW0 := hid hD
      have HSW0 : Hid (w.heap.size + 2 ≤ W.heap.size) := by have h1 := (Array.getElem?_eq_some_iff.1 hwb.rs).1; unfold Hid; omega
      have HDS0 : Hid (w.heap.size + 2 ≤ D0) := by have h1 := HSZ0.out; have h2 := HSU0.out; unfold Hid; omega
      obtain ⟨rbx1, Hrbx1⟩ : ∃ q, Hid (q = W.heap.size) := ⟨_, rfl⟩
      rw [← Hrbx1.out] at RR1
      clear hwb hwt i1 i2 i3 i4 hK hD hbZ0 hvw
      go_wp2_with fail
      rw [← HZ0.out, ← Hrbx1.out]
      rw [rounds_succ]
      have q0 : Z0.cell? ⟨rbx1, 0, none⟩ = some (.int .i64 1) := by rw [cell_of_row _ _ _ _ _ _ RR1.out]; rfl
      obtain ⟨U1, HU1⟩ : ∃ U1, Hid (U1 = (Z0.alloc (.cells #[.int .i64 0] 3)).alloc (.cells #[.bool false] 4)) := ⟨_, rfl⟩
      have HSU1 : Hid (U1.heap.size = Z0.heap.size + 2) := by unfold Hid; rw [HU1.out]; simp
      have HBU1 : Hid (Below Z0.heap.size Z0 U1) := by rw [HU1.out]; exact ((Below.refl _ _).alloc (Nat.le_refl _) _).alloc (by simp) _
      have RNU1 : Hid (U1.heap[Z0.heap.size]? = some (.cells #[.int .i64 ((0 : Nat) : Int)] 3)) := by
        unfold Hid; rw [HU1.out, Below.heap_alloc _ _ _ (by simp)]; exact heap_alloc_new Z0 _
      have RLU1 : Hid (U1.heap[Z0.heap.size + 1]? = some (.cells #[.bool false] 4)) := by
        have h := heap_alloc_new (Z0.alloc (.cells #[.int .i64 0] 3)) (.cells #[.bool false] 4)
        rw [World.size_alloc] at h
        unfold Hid; rw [HU1.out]; exact h
      go_upto_region 13 with fail
      rw [← HU1.out]
      go_wp2_with fail
      refine wpIn_wide.1 (wpIn_givesU (β := Nat) (n := 9) (F := Fence.wide) rfl (by omega) (gf := 41) (lb := #[.pointer (some ⟨pbx, 0, none⟩), .pointer (some ⟨tbx, 0, none⟩)]) rfl trivial (enters_of Try.func41 (by kernel_rfl) rfl)
        (seq_gives 8 (by omega) (fun b => b = tb) pbx tbx tb x y m HX.out HWF.out HNM.out) (fun _ => rfl)
        (fun i W => U1.heap.size ≤ W.heap.size ∧ Below Z0.heap.size Z0 W ∧ W.heap[Z0.heap.size]? = some (.cells #[.int .i64 (i : Int)] 3) ∧ W.heap[Z0.heap.size + 1]? = some (.cells #[.bool false] 4))
        (fun c W => False) ?hI1 ?hIx1 ?hF1 ?h01
        (fun e b tt => (((tt.setIfInBounds 36 (pv e.1)).setIfInBounds 37 (.int .i64 e.2)).setIfInBounds 12 (.pointer (some ⟨b, 0, none⟩))).setIfInBounds 13 (.int .i64 e.2)) (fun e b W => U1.heap.size ≤ b ∧ W.heap[b]? = some (.cells #[.int .u32 (e.1.x : Int), .int .i64 (e.1.n : Int)] 31)) ?hAy1 ?assign1 ?body1 ?done1 ?stop1)
      case hI1 =>
        refine ownN_below (fun i W hi => hi.1) ?_
        rintro i W W' ⟨i1, i2, i3, i4⟩ hb
        have hs := HSU1.out
        exact ⟨Nat.le_trans i1 hb.size, i2.trans (hb.mono (by omega)), below_keeps hb i3 (by omega), below_keeps hb i4 (by omega)⟩
      case hIx1 =>
        rintro c W W' row h hg hr
        exact h.elim
      case hF1 =>
        rintro i W ⟨i1, i2, i3, i4⟩
        exact HKZ0.out.sq.below i2
      case h01 => exact ⟨Nat.le_refl _, HBU1.out, RNU1.out, RLU1.out⟩
      case hAy1 =>
        rintro e b _ W W' row ⟨h1, h2⟩ hg hr
        refine ⟨h1, (hg.block _ (Array.getElem?_eq_some_iff.1 h2).1 (fun he => ?_)).trans h2⟩
        obtain ⟨_, o, ho, hm⟩ := hr b he.symm
        rw [h2] at ho
        cases ho
        rcases hm with hm | ⟨cs, hm⟩ | ⟨cs, hm⟩
        · cases hm
        · injection hm with _ hm; exact absurd hm (by decide)
        · injection hm with _ hm; exact absurd hm (by decide)
      case assign1 =>
        intro l i e W K hi hx hK
        obtain ⟨W2, HW2⟩ : ∃ W2, Hid (W2 = W.alloc (.cells #[.int .u32 (e.1.x : Int), .int .i64 (e.1.n : Int)] 31)) := ⟨_, rfl⟩
        have hbW : Below W.heap.size W W2 := by rw [HW2.out]; exact (Below.refl _ _).alloc (Nat.le_refl _) _
        have hrW : W2.heap[W.heap.size]? = some (.cells #[.int .u32 (e.1.x : Int), .int .i64 (e.1.n : Int)] 31) := by rw [HW2.out]; exact heap_alloc_new W _
        obtain ⟨i1, i2, i3, i4⟩ := hi
        have hs := HSU1.out
        have HK := hK W.heap.size W2 (KeepsN.of_below hbW) ⟨Nat.le_trans i1 hbW.size, i2.trans (hbW.mono i2.size), below_keeps hbW i3 (by omega), below_keeps hbW i4 (by omega)⟩ ⟨i1, hrW⟩
        unfold pv at HK ⊢
        simp only [List.setIfInBounds_toArray, List.set_cons_zero, List.set_cons_succ] at HK ⊢
        clear hK i1 i2 i3 i4 hx hbW hrW
        gi_wp2
        rw [← HW2.out]
        exact HK
      case body1 =>
        rintro l i e b W hl _ ⟨i1, i2, i3, i4⟩ ⟨j1, j2⟩ hx
        have hwb := HKZ0.out.below i2
        have hs := HSU1.out
        obtain ⟨ek, ev⟩ := e
        simp only at j2
        have p0 : W.cell? ⟨b, 0, none⟩ = some (.int .u32 (ek.x : Int)) := by rw [cell_of_row _ _ _ _ _ _ j2]; rfl
        have p1 : W.cell? ⟨b, 1, none⟩ = some (.int .i64 (ek.n : Int)) := by rw [cell_of_row _ _ _ _ _ _ j2]; rfl
        have n0 : W.cell? ⟨Z0.heap.size, 0, none⟩ = some (.int .i64 (i : Int)) := by rw [cell_of_row _ _ _ _ _ _ i3]; rfl
        have nf : W.frozen? ⟨Z0.heap.size, 0, none⟩ = false := frozen_of_row _ _ _ _ _ i3
        have l0 : W.cell? ⟨Z0.heap.size + 1, 0, none⟩ = some (.bool false) := by rw [cell_of_row _ _ _ _ _ _ i4]; rfl
        have lf : W.frozen? ⟨Z0.heap.size + 1, 0, none⟩ = false := frozen_of_row _ _ _ _ _ i4
        have r0 : W.cell? ⟨rbx1, 0, none⟩ = some (.int .i64 1) := by rw [cell_of_row _ _ _ _ _ _ (below_keeps i2 RR1.out (Array.getElem?_eq_some_iff.1 RR1.out).1)]; rfl
        have o5 : W.cell? ⟨w.heap.size, 5, none⟩ = some (.int .i64 a) := by rw [cell_of_row _ _ _ _ _ _ hwb.ob]; rfl
        obtain ⟨ao, nE, cap, hvw, HNE, hnc, hcm⟩ := hwb.en.shape
        have hin : i < nE := by have h1 := (List.getElem?_eq_some_iff.1 hx).1; have h2 := HNE.out; omega
        have hwt := hwb.wt
        have hen := hwb.en
        rw [hvw] at hwt hen
        have wt0 : W.cell? ⟨bw, 0, none⟩ = some (.slice ao nE cap) := by rw [cell_of_row _ _ _ _ _ _ hwt]; rfl
        obtain ⟨g, f, hao, hg, hf, c0, c1, c2⟩ := hen.at i hin
        rw [hx] at hf
        obtain rfl := Option.some.inj hf
        subst hao
        simp only at c0 c1 c2
        have b1 : ¬ ((nE : Int) ≤ (i : Int)) := by omega
        have b2 : (i : Int) < (nE : Int) := by omega
        have b3 : (0 : Int) ≤ (i : Int) := by omega
        have hq : ∀ u : World, (Op.equalIn 10000 31 (.agg #[.int .u32 (ek.x : Int), .int .i64 (ek.n : Int)]) (.agg #[.int .u32 (ek.x : Int), .int .i64 (ek.n : Int)])).run Try.prog u = .ok true u := fun u => (eqK ek ek u).trans (by simp)
        unfold maxLen at hcm
        have hmax : (i : Int) ≤ 9223372036854775806 := by omega
        have HFIN : Hid (∀ Wc, Wc.heap = (W.setCell ⟨Z0.heap.size, 0, none⟩ (.int .i64 ((i : Int) + 1))).heap → Wc.os = W.os → Wc.tape = W.tape → Wc.output = W.output → KeepsN U1.heap.size W Wc ∧ U1.heap.size ≤ Wc.heap.size ∧ Below Z0.heap.size Z0 Wc ∧ Wc.heap[Z0.heap.size]? = some (.cells #[.int .i64 ((i + 1 : Nat) : Int)] 3) ∧ Wc.heap[Z0.heap.size + 1]? = some (.cells #[.bool false] 4)) := fun Wc hh h1 h2 h3 => by
          have bt : But Z0.heap.size W (W.setCell ⟨Z0.heap.size, 0, none⟩ (.int .i64 ((i : Int) + 1))) := But.set _ _ _ _
          have hsz : W.heap.size ≤ Wc.heap.size := by rw [hh]; exact bt.size
          have hbl : ∀ j, j < W.heap.size → j ≠ Z0.heap.size → Wc.heap[j]? = W.heap[j]? := fun j hj hn => by rw [hh]; exact bt.block j hj hn
          refine ⟨⟨hsz, fun j o hj ho _ => (hbl j (Array.getElem?_eq_some_iff.1 ho).1 (by omega)).trans ho⟩, Nat.le_trans i1 hsz, ⟨h1.trans i2.os, h2.trans i2.tape, h3.trans i2.output, Nat.le_trans i2.size hsz, fun j hj => (hbl j (by omega) (by omega)).trans (i2.block j hj)⟩, ?_, (hbl _ (by omega) (by omega)).trans i4⟩
          rw [hh, set_row i3]
          rfl
        clear hwb i1 i2 i3 i4 j1 j2 hwt hen hf hx hs hg
        simp only [pv, List.setIfInBounds_toArray, List.set_cons_zero, List.set_cons_succ]
        gi_wp2
        refine wpIn_region_guarded' 21 (fun i => 46 + i) (FL [some (.int .i64 (i : Int)), some (.slice (some ⟨g, 0, none⟩) nE cap), some (.int .i64 (nE : Int)), some (.bool false), some (.bool false), some (.agg #[.int .u32 (ek.x : Int), .int .i64 (ek.n : Int)]), some (.slice (some ⟨g, 0, none⟩) nE cap), some (.int .i64 (i : Int)), some (.pointer (some ⟨g, i * 3, none⟩)), some (.pointer (some ⟨g, i * 3, none⟩)), some (.agg #[.int .u32 (ek.x : Int), .int .i64 (ek.n : Int)]), some (.bool false), some (.bool false), some (.bool false), some (.int .i64 ev), some (.slice (some ⟨g, 0, none⟩) nE cap), some (.int .i64 (i : Int)), some (.pointer (some ⟨g, i * 3, none⟩)), some (.pointer (some ⟨g, i * 3 + 2, none⟩)), some (.int .i64 ev), some (.bool false)]) (fun u => u = W.drew) (fun _ u u' => u' = u) (by kernel_rfl) (by kernel_rfl) rfl (fun _ _ _ _ _ _ h _ _ => h) ?_ ?_
        · simp only [List.take_succ_cons, List.take_zero, N.stepsG]
          refine ⟨?_, ?_, ?_, ?_, ?_, ?_, ?_, ?_, ?_, ?_, ?_, ?_, ?_, ?_, ?_, ?_, ?_, ?_, ?_, ?_, ?_, trivial⟩
          · intro a' u vs hI hold hdep
            obtain rfl : u = W.drew := hI
            exact opAt_plain rfl (wpIn_val (fun _ h => by cases h) (ex_load _ ⟨Z0.heap.size, 0, none⟩ (.tmp 10) _ rfl (hold 10 (fun j hj => low (by decide))) (load_in n0)) ⟨_, rfl, fun x hx => Option.some.inj (Option.some.inj hx), rfl, rfl⟩)
          · intro a' u vs hI hold hdep
            obtain rfl : u = W.drew := hI
            exact opAt_plain rfl (wpIn_val (fun _ h => by cases h) (ex_load _ ⟨bw, 0, none⟩ (.tmp 8) _ rfl (hold 8 (fun j hj => low (by decide))) (load_sE wt0)) ⟨_, rfl, fun x hx => Option.some.inj (Option.some.inj hx), rfl, rfl⟩)
          · intro a' u vs hI hold hdep
            obtain rfl : u = W.drew := hI
            have h1 := hdep ⟨1, .data⟩ (by simp) rfl (by decide)
            have e1 := h1.1.trans (h1.2 _ rfl)
            exact opAt_plain rfl (wpIn_val (fun _ h => by cases h) (ex_len 47 _ _ _ rfl e1) ⟨_, rfl, fun x hx => Option.some.inj (Option.some.inj hx), rfl, rfl⟩)
          · intro a' u vs hI hold hdep
            obtain rfl : u = W.drew := hI
            have h0 := hdep ⟨0, .data⟩ (by simp) rfl (by decide)
            have e0 := h0.1.trans (h0.2 _ rfl)
            have h2 := hdep ⟨2, .data⟩ (by simp) rfl (by decide)
            have e2 := h2.1.trans (h2.2 _ rfl)
            exact opAt_plain rfl (wpIn_val (fun _ h => by cases h) (ex_geq (.tmp 46) (.tmp 48) _ _ _ rfl e0 e2 (decide_eq_false (by omega))) ⟨_, rfl, fun x hx => Option.some.inj (Option.some.inj hx), rfl, rfl⟩)
          · intro a' u vs hI hold hdep
            obtain rfl : u = W.drew := hI
            have h3 := hdep ⟨3, .data⟩ (by simp) rfl (by decide)
            have e3 := h3.1.trans (h3.2 _ rfl)
            exact opAt_plain rfl (wpIn_val (fun _ h => by cases h) (ex_move (.tmp 49) _ rfl e3) ⟨_, rfl, fun x hx => Option.some.inj (Option.some.inj hx), rfl, rfl⟩)
          · intro a' u vs hI hold hdep
            obtain rfl : u = W.drew := hI
            have hg := hdep ⟨4, .guard⟩ (by simp) rfl (by decide)
            have eg := hg.1.trans (hg.2 _ rfl)
            exact opAt_go (j := 4) (t := 50) (b := false) rfl rfl eg (wpIn_val (fun _ h => by cases h) (ex_load _ ⟨b, 0, none⟩ (.tmp 12) _ rfl (hold 12 (fun j hj => low (by decide))) (load_pre p0 p1)) ⟨_, rfl, fun x hx => Option.some.inj (Option.some.inj hx), rfl, rfl⟩)
          · intro a' u vs hI hold hdep
            obtain rfl : u = W.drew := hI
            have hg := hdep ⟨4, .guard⟩ (by simp) rfl (by decide)
            have eg := hg.1.trans (hg.2 _ rfl)
            exact opAt_go (j := 4) (t := 50) (b := false) rfl rfl eg (wpIn_val (fun _ h => by cases h) (ex_load _ ⟨bw, 0, none⟩ (.tmp 8) _ rfl (hold 8 (fun j hj => low (by decide))) (load_sE wt0)) ⟨_, rfl, fun x hx => Option.some.inj (Option.some.inj hx), rfl, rfl⟩)
          · intro a' u vs hI hold hdep
            obtain rfl : u = W.drew := hI
            have hg := hdep ⟨4, .guard⟩ (by simp) rfl (by decide)
            have eg := hg.1.trans (hg.2 _ rfl)
            exact opAt_go (j := 4) (t := 50) (b := false) rfl rfl eg (wpIn_val (fun _ h => by cases h) (ex_load _ ⟨Z0.heap.size, 0, none⟩ (.tmp 10) _ rfl (hold 10 (fun j hj => low (by decide))) (load_in n0)) ⟨_, rfl, fun x hx => Option.some.inj (Option.some.inj hx), rfl, rfl⟩)
          · intro a' u vs hI hold hdep
            obtain rfl : u = W.drew := hI
            have hg := hdep ⟨4, .guard⟩ (by simp) rfl (by decide)
            have eg := hg.1.trans (hg.2 _ rfl)
            have h6 := hdep ⟨6, .data⟩ (by simp) rfl (by decide)
            have e6 := h6.1.trans (h6.2 _ rfl)
            have h7 := hdep ⟨7, .data⟩ (by simp) rfl (by decide)
            have e7 := h7.1.trans (h7.2 _ rfl)
            exact opAt_go (j := 4) (t := 50) (b := false) rfl rfl eg (wpIn_val (fun _ h => by cases h) (ex_index _ (.tmp 52) (.tmp 53) _ _ _ rfl e6 e7 (idx_en hin _)) ⟨_, rfl, fun x hx => Option.some.inj (Option.some.inj hx), rfl, rfl⟩)
          · intro a' u vs hI hold hdep
            obtain rfl : u = W.drew := hI
            have hg := hdep ⟨4, .guard⟩ (by simp) rfl (by decide)
            have eg := hg.1.trans (hg.2 _ rfl)
            have h8 := hdep ⟨8, .data⟩ (by simp) rfl (by decide)
            have e8 := h8.1.trans (h8.2 _ rfl)
            exact opAt_go (j := 4) (t := 50) (b := false) rfl rfl eg (wpIn_val (fun _ h => by cases h) (ex_field _ _ (.tmp 54) 0 _ rfl e8 (fld_rE _).1) ⟨_, rfl, fun x hx => Option.some.inj (Option.some.inj hx), rfl, rfl⟩)
          · intro a' u vs hI hold hdep
            obtain rfl : u = W.drew := hI
            have hg := hdep ⟨4, .guard⟩ (by simp) rfl (by decide)
            have eg := hg.1.trans (hg.2 _ rfl)
            have h9 := hdep ⟨9, .data⟩ (by simp) rfl (by decide)
            have e9 := h9.1.trans (h9.2 _ rfl)
            exact opAt_go (j := 4) (t := 50) (b := false) rfl rfl eg (wpIn_val (fun _ h => by cases h) (ex_load _ ⟨g, i * 3, none⟩ (.tmp 55) _ rfl e9 (load_pre c0 c1)) ⟨_, rfl, fun x hx => Option.some.inj (Option.some.inj hx), rfl, rfl⟩)
          · intro a' u vs hI hold hdep
            obtain rfl : u = W.drew := hI
            have hg := hdep ⟨4, .guard⟩ (by simp) rfl (by decide)
            have eg := hg.1.trans (hg.2 _ rfl)
            have h5 := hdep ⟨5, .data⟩ (by simp) rfl (by decide)
            have e5 := h5.1.trans (h5.2 _ rfl)
            have h10 := hdep ⟨10, .data⟩ (by simp) rfl (by decide)
            have e10 := h10.1.trans (h10.2 _ rfl)
            exact opAt_go (j := 4) (t := 50) (b := false) rfl rfl eg (wpIn_val (fun _ h => by cases h) (ex_neqK (.tmp 51) (.tmp 56) ek rfl e5 e10) ⟨_, rfl, fun x hx => Option.some.inj (Option.some.inj hx), rfl, rfl⟩)
          · intro a' u vs hI hold hdep
            obtain rfl : u = W.drew := hI
            have h4 := hdep ⟨4, .data⟩ (by simp) rfl (by decide)
            have e4 := h4.1.trans (h4.2 _ rfl)
            have h11 := hdep ⟨11, .data⟩ (by simp) rfl (by decide)
            have e11 := h11.1.trans (h11.2 _ rfl)
            exact opAt_plain rfl (wpIn_val (fun _ h => by cases h) (ex_pickF (.tmp 50) (.tmp 57) _ rfl e4 e11) ⟨_, rfl, fun x hx => Option.some.inj (Option.some.inj hx), rfl, rfl⟩)
          · intro a' u vs hI hold hdep
            obtain rfl : u = W.drew := hI
            have h12 := hdep ⟨12, .data⟩ (by simp) rfl (by decide)
            have e12 := h12.1.trans (h12.2 _ rfl)
            exact opAt_plain rfl (wpIn_val (fun _ h => by cases h) (ex_move (.tmp 58) _ rfl e12) ⟨_, rfl, fun x hx => Option.some.inj (Option.some.inj hx), rfl, rfl⟩)
          · intro a' u vs hI hold hdep
            obtain rfl : u = W.drew := hI
            have hg := hdep ⟨13, .guard⟩ (by simp) rfl (by decide)
            have eg := hg.1.trans (hg.2 _ rfl)
            exact opAt_go (j := 13) (t := 59) (b := false) rfl rfl eg (wpIn_val (fun _ h => by cases h) (ex_move (.tmp 13) _ rfl (hold 13 (fun j hj => low (by decide)))) ⟨_, rfl, fun x hx => Option.some.inj (Option.some.inj hx), rfl, rfl⟩)
          · intro a' u vs hI hold hdep
            obtain rfl : u = W.drew := hI
            have hg := hdep ⟨13, .guard⟩ (by simp) rfl (by decide)
            have eg := hg.1.trans (hg.2 _ rfl)
            exact opAt_go (j := 13) (t := 59) (b := false) rfl rfl eg (wpIn_val (fun _ h => by cases h) (ex_load _ ⟨bw, 0, none⟩ (.tmp 8) _ rfl (hold 8 (fun j hj => low (by decide))) (load_sE wt0)) ⟨_, rfl, fun x hx => Option.some.inj (Option.some.inj hx), rfl, rfl⟩)
          · intro a' u vs hI hold hdep
            obtain rfl : u = W.drew := hI
            have hg := hdep ⟨13, .guard⟩ (by simp) rfl (by decide)
            have eg := hg.1.trans (hg.2 _ rfl)
            exact opAt_go (j := 13) (t := 59) (b := false) rfl rfl eg (wpIn_val (fun _ h => by cases h) (ex_load _ ⟨Z0.heap.size, 0, none⟩ (.tmp 10) _ rfl (hold 10 (fun j hj => low (by decide))) (load_in n0)) ⟨_, rfl, fun x hx => Option.some.inj (Option.some.inj hx), rfl, rfl⟩)
          · intro a' u vs hI hold hdep
            obtain rfl : u = W.drew := hI
            have hg := hdep ⟨13, .guard⟩ (by simp) rfl (by decide)
            have eg := hg.1.trans (hg.2 _ rfl)
            have h15 := hdep ⟨15, .data⟩ (by simp) rfl (by decide)
            have e15 := h15.1.trans (h15.2 _ rfl)
            have h16 := hdep ⟨16, .data⟩ (by simp) rfl (by decide)
            have e16 := h16.1.trans (h16.2 _ rfl)
            exact opAt_go (j := 13) (t := 59) (b := false) rfl rfl eg (wpIn_val (fun _ h => by cases h) (ex_index _ (.tmp 61) (.tmp 62) _ _ _ rfl e15 e16 (idx_en hin _)) ⟨_, rfl, fun x hx => Option.some.inj (Option.some.inj hx), rfl, rfl⟩)
          · intro a' u vs hI hold hdep
            obtain rfl : u = W.drew := hI
            have hg := hdep ⟨13, .guard⟩ (by simp) rfl (by decide)
            have eg := hg.1.trans (hg.2 _ rfl)
            have h17 := hdep ⟨17, .data⟩ (by simp) rfl (by decide)
            have e17 := h17.1.trans (h17.2 _ rfl)
            exact opAt_go (j := 13) (t := 59) (b := false) rfl rfl eg (wpIn_val (fun _ h => by cases h) (ex_field _ _ (.tmp 63) 1 _ rfl e17 (fld_rE _).2) ⟨_, rfl, fun x hx => Option.some.inj (Option.some.inj hx), rfl, rfl⟩)
          · intro a' u vs hI hold hdep
            obtain rfl : u = W.drew := hI
            have hg := hdep ⟨13, .guard⟩ (by simp) rfl (by decide)
            have eg := hg.1.trans (hg.2 _ rfl)
            have h18 := hdep ⟨18, .data⟩ (by simp) rfl (by decide)
            have e18 := h18.1.trans (h18.2 _ rfl)
            exact opAt_go (j := 13) (t := 59) (b := false) rfl rfl eg (wpIn_val (fun _ h => by cases h) (ex_load _ ⟨g, i * 3 + 2, none⟩ (.tmp 64) _ rfl e18 (load_in c2)) ⟨_, rfl, fun x hx => Option.some.inj (Option.some.inj hx), rfl, rfl⟩)
          · intro a' u vs hI hold hdep
            obtain rfl : u = W.drew := hI
            have hg := hdep ⟨13, .guard⟩ (by simp) rfl (by decide)
            have eg := hg.1.trans (hg.2 _ rfl)
            have h14 := hdep ⟨14, .data⟩ (by simp) rfl (by decide)
            have e14 := h14.1.trans (h14.2 _ rfl)
            have h19 := hdep ⟨19, .data⟩ (by simp) rfl (by decide)
            have e19 := h19.1.trans (h19.2 _ rfl)
            exact opAt_go (j := 13) (t := 59) (b := false) rfl rfl eg (wpIn_val (fun _ h => by cases h) (ex_neqI (.tmp 60) (.tmp 65) _ rfl e14 e19) ⟨_, rfl, fun x hx => Option.some.inj (Option.some.inj hx), rfl, rfl⟩)
        intro vs V2 hV2 hF
        subst hV2
        have f0 := hF 0 (by decide) _ rfl
        have f1 := hF 1 (by decide) _ rfl
        have f2 := hF 2 (by decide) _ rfl
        have f3 := hF 3 (by decide) _ rfl
        have f4 := hF 4 (by decide) _ rfl
        have f5 := hF 5 (by decide) _ rfl
        have f6 := hF 6 (by decide) _ rfl
        have f7 := hF 7 (by decide) _ rfl
        have f8 := hF 8 (by decide) _ rfl
        have f9 := hF 9 (by decide) _ rfl
        have f10 := hF 10 (by decide) _ rfl
        have f11 := hF 11 (by decide) _ rfl
        have f12 := hF 12 (by decide) _ rfl
        have f13 := hF 13 (by decide) _ rfl
        have f14 := hF 14 (by decide) _ rfl
        have f15 := hF 15 (by decide) _ rfl
        have f16 := hF 16 (by decide) _ rfl
        have f17 := hF 17 (by decide) _ rfl
        have f18 := hF 18 (by decide) _ rfl
        have f19 := hF 19 (by decide) _ rfl
        have f20 := hF 20 (by decide) _ rfl
        simp only [List.drop_succ_cons, List.drop_zero, puts, List.range, List.range.loop, List.foldr, Nat.reduceAdd, if_true, f0, f1, f2, f3, f4, f5, f6, f7, f8, f9, f10, f11, f12, f13, f14, f15, f16, f17, f18, f19, f20, Act.put, List.setIfInBounds_toArray, List.set_cons_zero, List.set_cons_succ]
        clear hF f0 f1 f2 f3 f4 f5 f6 f7 f8 f9 f10 f11 f12 f13 f14 f15 f16 f17 f18 f19 f20
        gi_wp2
        exact HFIN.out _ (by rfl) (by rfl) (by rfl) (by rfl)
      case done1 =>
        rintro D1 W hD ⟨i1, i2, i3, i4⟩ hK
        have hwb := HKZ0.out.below i2
        have n0 : W.cell? ⟨Z0.heap.size, 0, none⟩ = some (.int .i64 ((entsIn (ents m.tr) x y).length : Int)) := by rw [cell_of_row _ _ _ _ _ _ i3]; rfl
        have l0 : W.cell? ⟨Z0.heap.size + 1, 0, none⟩ = some (.bool false) := by rw [cell_of_row _ _ _ _ _ _ i4]; rfl
        have r0 : W.cell? ⟨rbx1, 0, none⟩ = some (.int .i64 1) := by rw [cell_of_row _ _ _ _ _ _ (below_keeps i2 RR1.out (Array.getElem?_eq_some_iff.1 RR1.out).1)]; rfl
        obtain ⟨ao, nE, cap, hvw, HNE, hnc, hcm⟩ := hwb.en.shape
        have hwt := hwb.wt
        rw [hvw] at hwt
        have wt0 : W.cell? ⟨bw, 0, none⟩ = some (.slice ao nE cap) := by rw [cell_of_row _ _ _ _ _ _ hwt]; rfl
        rw [← HNE.out] at n0
        obtain ⟨Z1, HZ1⟩ : ∃ Z1, Hid (Z1 = W.alloc (.cells #[.int .i64 2] 3)) := ⟨_, rfl⟩
        have hbZ1 : Below W.heap.size W Z1 := by rw [HZ1.out]; exact (Below.refl _ _).alloc (Nat.le_refl _) _
        have HKZ1 := hid (hwb.below hbZ1)
        have RR2 : Hid (Z1.heap[W.heap.size]? = some (.cells #[.int .i64 2] 3)) := by rw [HZ1.out]; exact heap_alloc_new W _
        have HD1Z1 : Hid (Z1.heap[D1]? = some (.deferred (some []))) := below_keeps hbZ1 hK (Array.getElem?_eq_some_iff.1 hK).1
        have HDW1 := hid hD
        have HSW1 : Hid (w.heap.size + 2 ≤ W.heap.size) := by have h1 := (Array.getElem?_eq_some_iff.1 hwb.rs).1; unfold Hid; omega
        have HD0Z1 : Hid (Z1.heap[D0]? = some (.deferred (some []))) := by
          have h1 := (Array.getElem?_eq_some_iff.1 HD0Z0.out).1
          have h2 := below_keeps i2 HD0Z0.out h1
          exact below_keeps hbZ1 h2 (Array.getElem?_eq_some_iff.1 h2).1
        have HDS1 : Hid (w.heap.size + 2 ≤ D1) := by have h1 := (Array.getElem?_eq_some_iff.1 HKZ0.out.rs).1; have h2 := HSU1.out; unfold Hid; omega
        have HDN : Hid (D1 ≠ D0) := by have h1 := (Array.getElem?_eq_some_iff.1 HD0Z0.out).1; have h2 := HSU1.out; unfold Hid; omega
        obtain ⟨rbx2, Hrbx2⟩ : ∃ q, Hid (q = W.heap.size) := ⟨_, rfl⟩
        rw [← Hrbx2.out] at RR2
        clear hwb hwt i1 i2 i3 i4 hK hD hbZ1 hvw
        go_wp2_with fail
        rw [← HZ1.out, ← Hrbx2.out]
        have q0 : Z1.cell? ⟨rbx2, 0, none⟩ = some (.int .i64 2) := by rw [cell_of_row _ _ _ _ _ _ RR2.out]; rfl
        have hwb := HKZ1.out
        have rs0 : Z1.cell? ⟨w.heap.size + 1, 0, none⟩ = some (.bool false) := by rw [cell_of_row _ _ _ _ _ _ hwb.rs]; rfl
        have rsf : Z1.frozen? ⟨w.heap.size + 1, 0, none⟩ = false := frozen_of_row _ _ _ _ _ hwb.rs
        obtain ⟨Y2, hY2⟩ : ∃ Y2, Y2 = Z1.setCell ⟨w.heap.size + 1, 0, none⟩ (.bool true) := ⟨_, rfl⟩
        have bt : But (w.heap.size + 1) Z1 Y2 := by rw [hY2]; exact But.set _ _ _ _
        have hsz := (Array.getElem?_eq_some_iff.1 hwb.rs).1
        have RS : Hid (Y2.heap[w.heap.size + 1]? = some (.cells #[.bool true] 4)) := by rw [hY2]; exact set_row hwb.rs
        have HBY : Hid (Below w.heap.size w Y2) := bt.below hwb.bel (by omega) (by omega)
        have hd0 := HDW0.out
        have hd1 := HDW1.out
        have E0 : Hid (Y2.heap[D0]? = some (.deferred (some []))) := (bt.block _ (Array.getElem?_eq_some_iff.1 HD0Z1.out).1 (by have := HDS0.out; omega)).trans HD0Z1.out
        have E1 : Hid (Y2.heap[D1]? = some (.deferred (some []))) := (bt.block _ (Array.getElem?_eq_some_iff.1 HD1Z1.out).1 (by have := HDS1.out; omega)).trans HD1Z1.out
        have HY2 := hid hY2
        clear hwb hY2 bt hsz hd0 hd1
        rw [rounds_succ]
        go_wp2_with fail
        rw [← HY2.out]
        have hK0 := E0.out
        have hK1 := E1.out
        have hne : D1 ≠ D0 := HDN.out
        have hK0' : (Y2.putObj D1 (.deferred none)).heap[D0]? = some (.deferred (some [])) := (World.putObj_heap_other (fun e => hne e.symm)).trans hK0
        have hf1 : Below w.heap.size w (Y2.putObj D1 (.deferred none)) := HBY.out.trans (belowK_b (w := w) (Nat.le_refl _) Y2 D1 _ _ (by have := HDS1.out; omega) hK1 rfl rfl)
        have hf0 : Below w.heap.size w ((Y2.putObj D1 (.deferred none)).putObj D0 (.deferred none)) := hf1.trans (belowK_b (w := w) (Nat.le_refl _) _ D0 _ _ (by have := HDS0.out; omega) hK0' rfl rfl)
        have rz : ((Y2.putObj D1 (.deferred none)).putObj D0 (.deferred none)).heap[w.heap.size + 1]? = some (.cells #[.bool true] 4) := (World.putObj_heap_other (by have := HDS0.out; omega)).trans ((World.putObj_heap_other (by have := HDS1.out; omega)).trans RS.out)
        have g0 : ((Y2.putObj D1 (.deferred none)).putObj D0 (.deferred none)).cell? ⟨w.heap.size + 1, 0, none⟩ = some (.bool true) := by rw [cell_of_row _ _ _ _ _ _ rz]; rfl
        refine ⟨by simp, .inl ⟨_, _, rfl, run_takeDeferred hK1, by simp, .inl ⟨_, _, rfl, run_takeDeferred hK0', ?_⟩⟩⟩
        exact ⟨_, (by simp [results, Try.results48, go_sem, g0]), rfl, hf0⟩
      case stop1 =>
        rintro D c W hD h hK
        exact h.elim
    case stop0 =>
      rintro D0 c W hD ⟨rfl, i1, i2, ⟨i, i3⟩, i4⟩ hK
      refine wpIn_wide.2 ?_
      have hwb := HKV0.out.below i2
      have l0 : W.cell? ⟨V0.heap.size + 1, 0, none⟩ = some (.bool true) := by rw [cell_of_row _ _ _ _ _ _ i4]; rfl
      have r0 : W.cell? ⟨rbx0, 0, none⟩ = some (.int .i64 0) := by rw [cell_of_row _ _ _ _ _ _ (below_keeps i2 RR0.out (Array.getElem?_eq_some_iff.1 RR0.out).1)]; rfl
      obtain ⟨ao, nE, cap, hvw, HNE, hnc, hcm⟩ := hwb.en.shape
      have hwt := hwb.wt
      rw [hvw] at hwt
      have wt0 : W.cell? ⟨bw, 0, none⟩ = some (.slice ao nE cap) := by rw [cell_of_row _ _ _ _ _ _ hwt]; rfl
      obtain ⟨Z0, HZ0⟩ : ∃ Z0, Hid (Z0 = W.alloc (.cells #[.int .i64 1] 3)) := ⟨_, rfl⟩
      have hbZ0 : Below W.heap.size W Z0 := by rw [HZ0.out]; exact (Below.refl _ _).alloc (Nat.le_refl _) _
      have HKZ0 := hid (hwb.below hbZ0)
      have RR1 : Hid (Z0.heap[W.heap.size]? = some (.cells #[.int .i64 1] 3)) := by rw [HZ0.out]; exact heap_alloc_new W _
      have HD0Z0 : Hid (Z0.heap[D0]? = some (.deferred (some []))) := below_keeps hbZ0 hK (Array.getElem?_eq_some_iff.1 hK).1
      have HDW0 := hid hD
      have HSW0 : Hid (w.heap.size + 2 ≤ W.heap.size) := by have h1 := (Array.getElem?_eq_some_iff.1 hwb.rs).1; unfold Hid; omega
      have HDS0 : Hid (w.heap.size + 2 ≤ D0) := by have h1 := HSZ0.out; have h2 := HSU0.out; unfold Hid; omega
      obtain ⟨rbx1, Hrbx1⟩ : ∃ q, Hid (q = W.heap.size) := ⟨_, rfl⟩
      rw [← Hrbx1.out] at RR1
      clear hwb hwt i1 i2 i3 i4 hK hD hbZ0 hvw
      go_wp2_with fail
      rw [← HZ0.out, ← Hrbx1.out]
      rw [rounds_succ]
      have q0 : Z0.cell? ⟨rbx1, 0, none⟩ = some (.int .i64 1) := by rw [cell_of_row _ _ _ _ _ _ RR1.out]; rfl
      obtain ⟨U1, HU1⟩ : ∃ U1, Hid (U1 = (Z0.alloc (.cells #[.int .i64 0] 3)).alloc (.cells #[.bool false] 4)) := ⟨_, rfl⟩
      have HSU1 : Hid (U1.heap.size = Z0.heap.size + 2) := by unfold Hid; rw [HU1.out]; simp
      have HBU1 : Hid (Below Z0.heap.size Z0 U1) := by rw [HU1.out]; exact ((Below.refl _ _).alloc (Nat.le_refl _) _).alloc (by simp) _
      have RNU1 : Hid (U1.heap[Z0.heap.size]? = some (.cells #[.int .i64 ((0 : Nat) : Int)] 3)) := by
        unfold Hid; rw [HU1.out, Below.heap_alloc _ _ _ (by simp)]; exact heap_alloc_new Z0 _
      have RLU1 : Hid (U1.heap[Z0.heap.size + 1]? = some (.cells #[.bool false] 4)) := by
        have h := heap_alloc_new (Z0.alloc (.cells #[.int .i64 0] 3)) (.cells #[.bool false] 4)
        rw [World.size_alloc] at h
        unfold Hid; rw [HU1.out]; exact h
      go_upto_region 13 with fail
      rw [← HU1.out]
      go_wp2_with fail
      refine wpIn_wide.1 (wpIn_givesU (β := Nat) (n := 9) (F := Fence.wide) rfl (by omega) (gf := 41) (lb := #[.pointer (some ⟨pbx, 0, none⟩), .pointer (some ⟨tbx, 0, none⟩)]) rfl trivial (enters_of Try.func41 (by kernel_rfl) rfl)
        (seq_gives 8 (by omega) (fun b => b = tb) pbx tbx tb x y m HX.out HWF.out HNM.out) (fun _ => rfl)
        (fun i W => U1.heap.size ≤ W.heap.size ∧ Below Z0.heap.size Z0 W ∧ W.heap[Z0.heap.size]? = some (.cells #[.int .i64 (i : Int)] 3) ∧ W.heap[Z0.heap.size + 1]? = some (.cells #[.bool false] 4))
        (fun c W => False) ?hI1 ?hIx1 ?hF1 ?h01
        (fun e b tt => (((tt.setIfInBounds 36 (pv e.1)).setIfInBounds 37 (.int .i64 e.2)).setIfInBounds 12 (.pointer (some ⟨b, 0, none⟩))).setIfInBounds 13 (.int .i64 e.2)) (fun e b W => U1.heap.size ≤ b ∧ W.heap[b]? = some (.cells #[.int .u32 (e.1.x : Int), .int .i64 (e.1.n : Int)] 31)) ?hAy1 ?assign1 ?body1 ?done1 ?stop1)
      case hI1 =>
        refine ownN_below (fun i W hi => hi.1) ?_
        rintro i W W' ⟨i1, i2, i3, i4⟩ hb
        have hs := HSU1.out
        exact ⟨Nat.le_trans i1 hb.size, i2.trans (hb.mono (by omega)), below_keeps hb i3 (by omega), below_keeps hb i4 (by omega)⟩
      case hIx1 =>
        rintro c W W' row h hg hr
        exact h.elim
      case hF1 =>
        rintro i W ⟨i1, i2, i3, i4⟩
        exact HKZ0.out.sq.below i2
      case h01 => exact ⟨Nat.le_refl _, HBU1.out, RNU1.out, RLU1.out⟩
      case hAy1 =>
        rintro e b _ W W' row ⟨h1, h2⟩ hg hr
        refine ⟨h1, (hg.block _ (Array.getElem?_eq_some_iff.1 h2).1 (fun he => ?_)).trans h2⟩
        obtain ⟨_, o, ho, hm⟩ := hr b he.symm
        rw [h2] at ho
        cases ho
        rcases hm with hm | ⟨cs, hm⟩ | ⟨cs, hm⟩
        · cases hm
        · injection hm with _ hm; exact absurd hm (by decide)
        · injection hm with _ hm; exact absurd hm (by decide)
      case assign1 =>
        intro l i e W K hi hx hK
        obtain ⟨W2, HW2⟩ : ∃ W2, Hid (W2 = W.alloc (.cells #[.int .u32 (e.1.x : Int), .int .i64 (e.1.n : Int)] 31)) := ⟨_, rfl⟩
        have hbW : Below W.heap.size W W2 := by rw [HW2.out]; exact (Below.refl _ _).alloc (Nat.le_refl _) _
        have hrW : W2.heap[W.heap.size]? = some (.cells #[.int .u32 (e.1.x : Int), .int .i64 (e.1.n : Int)] 31) := by rw [HW2.out]; exact heap_alloc_new W _
        obtain ⟨i1, i2, i3, i4⟩ := hi
        have hs := HSU1.out
        have HK := hK W.heap.size W2 (KeepsN.of_below hbW) ⟨Nat.le_trans i1 hbW.size, i2.trans (hbW.mono i2.size), below_keeps hbW i3 (by omega), below_keeps hbW i4 (by omega)⟩ ⟨i1, hrW⟩
        unfold pv at HK ⊢
        simp only [List.setIfInBounds_toArray, List.set_cons_zero, List.set_cons_succ] at HK ⊢
        clear hK i1 i2 i3 i4 hx hbW hrW
        gi_wp2
        rw [← HW2.out]
        exact HK
      case body1 =>
        rintro l i e b W hl _ ⟨i1, i2, i3, i4⟩ ⟨j1, j2⟩ hx
        have hwb := HKZ0.out.below i2
        have hs := HSU1.out
        obtain ⟨ek, ev⟩ := e
        simp only at j2
        have p0 : W.cell? ⟨b, 0, none⟩ = some (.int .u32 (ek.x : Int)) := by rw [cell_of_row _ _ _ _ _ _ j2]; rfl
        have p1 : W.cell? ⟨b, 1, none⟩ = some (.int .i64 (ek.n : Int)) := by rw [cell_of_row _ _ _ _ _ _ j2]; rfl
        have n0 : W.cell? ⟨Z0.heap.size, 0, none⟩ = some (.int .i64 (i : Int)) := by rw [cell_of_row _ _ _ _ _ _ i3]; rfl
        have nf : W.frozen? ⟨Z0.heap.size, 0, none⟩ = false := frozen_of_row _ _ _ _ _ i3
        have l0 : W.cell? ⟨Z0.heap.size + 1, 0, none⟩ = some (.bool false) := by rw [cell_of_row _ _ _ _ _ _ i4]; rfl
        have lf : W.frozen? ⟨Z0.heap.size + 1, 0, none⟩ = false := frozen_of_row _ _ _ _ _ i4
        have r0 : W.cell? ⟨rbx1, 0, none⟩ = some (.int .i64 1) := by rw [cell_of_row _ _ _ _ _ _ (below_keeps i2 RR1.out (Array.getElem?_eq_some_iff.1 RR1.out).1)]; rfl
        have o5 : W.cell? ⟨w.heap.size, 5, none⟩ = some (.int .i64 a) := by rw [cell_of_row _ _ _ _ _ _ hwb.ob]; rfl
        obtain ⟨ao, nE, cap, hvw, HNE, hnc, hcm⟩ := hwb.en.shape
        have hin : i < nE := by have h1 := (List.getElem?_eq_some_iff.1 hx).1; have h2 := HNE.out; omega
        have hwt := hwb.wt
        have hen := hwb.en
        rw [hvw] at hwt hen
        have wt0 : W.cell? ⟨bw, 0, none⟩ = some (.slice ao nE cap) := by rw [cell_of_row _ _ _ _ _ _ hwt]; rfl
        obtain ⟨g, f, hao, hg, hf, c0, c1, c2⟩ := hen.at i hin
        rw [hx] at hf
        obtain rfl := Option.some.inj hf
        subst hao
        simp only at c0 c1 c2
        have b1 : ¬ ((nE : Int) ≤ (i : Int)) := by omega
        have b2 : (i : Int) < (nE : Int) := by omega
        have b3 : (0 : Int) ≤ (i : Int) := by omega
        have hq : ∀ u : World, (Op.equalIn 10000 31 (.agg #[.int .u32 (ek.x : Int), .int .i64 (ek.n : Int)]) (.agg #[.int .u32 (ek.x : Int), .int .i64 (ek.n : Int)])).run Try.prog u = .ok true u := fun u => (eqK ek ek u).trans (by simp)
        unfold maxLen at hcm
        have hmax : (i : Int) ≤ 9223372036854775806 := by omega
        have HFIN : Hid (∀ Wc, Wc.heap = (W.setCell ⟨Z0.heap.size, 0, none⟩ (.int .i64 ((i : Int) + 1))).heap → Wc.os = W.os → Wc.tape = W.tape → Wc.output = W.output → KeepsN U1.heap.size W Wc ∧ U1.heap.size ≤ Wc.heap.size ∧ Below Z0.heap.size Z0 Wc ∧ Wc.heap[Z0.heap.size]? = some (.cells #[.int .i64 ((i + 1 : Nat) : Int)] 3) ∧ Wc.heap[Z0.heap.size + 1]? = some (.cells #[.bool false] 4)) := fun Wc hh h1 h2 h3 => by
          have bt : But Z0.heap.size W (W.setCell ⟨Z0.heap.size, 0, none⟩ (.int .i64 ((i : Int) + 1))) := But.set _ _ _ _
          have hsz : W.heap.size ≤ Wc.heap.size := by rw [hh]; exact bt.size
          have hbl : ∀ j, j < W.heap.size → j ≠ Z0.heap.size → Wc.heap[j]? = W.heap[j]? := fun j hj hn => by rw [hh]; exact bt.block j hj hn
          refine ⟨⟨hsz, fun j o hj ho _ => (hbl j (Array.getElem?_eq_some_iff.1 ho).1 (by omega)).trans ho⟩, Nat.le_trans i1 hsz, ⟨h1.trans i2.os, h2.trans i2.tape, h3.trans i2.output, Nat.le_trans i2.size hsz, fun j hj => (hbl j (by omega) (by omega)).trans (i2.block j hj)⟩, ?_, (hbl _ (by omega) (by omega)).trans i4⟩
          rw [hh, set_row i3]
          rfl
        clear hwb i1 i2 i3 i4 j1 j2 hwt hen hf hx hs hg
        simp only [pv, List.setIfInBounds_toArray, List.set_cons_zero, List.set_cons_succ]
        gi_wp2
        refine wpIn_region_guarded' 21 (fun i => 46 + i) (FL [some (.int .i64 (i : Int)), some (.slice (some ⟨g, 0, none⟩) nE cap), some (.int .i64 (nE : Int)), some (.bool false), some (.bool false), some (.agg #[.int .u32 (ek.x : Int), .int .i64 (ek.n : Int)]), some (.slice (some ⟨g, 0, none⟩) nE cap), some (.int .i64 (i : Int)), some (.pointer (some ⟨g, i * 3, none⟩)), some (.pointer (some ⟨g, i * 3, none⟩)), some (.agg #[.int .u32 (ek.x : Int), .int .i64 (ek.n : Int)]), some (.bool false), some (.bool false), some (.bool false), some (.int .i64 ev), some (.slice (some ⟨g, 0, none⟩) nE cap), some (.int .i64 (i : Int)), some (.pointer (some ⟨g, i * 3, none⟩)), some (.pointer (some ⟨g, i * 3 + 2, none⟩)), some (.int .i64 ev), some (.bool false)]) (fun u => u = W.drew) (fun _ u u' => u' = u) (by kernel_rfl) (by kernel_rfl) rfl (fun _ _ _ _ _ _ h _ _ => h) ?_ ?_
        · simp only [List.take_succ_cons, List.take_zero, N.stepsG]
          refine ⟨?_, ?_, ?_, ?_, ?_, ?_, ?_, ?_, ?_, ?_, ?_, ?_, ?_, ?_, ?_, ?_, ?_, ?_, ?_, ?_, ?_, trivial⟩
          · intro a' u vs hI hold hdep
            obtain rfl : u = W.drew := hI
            exact opAt_plain rfl (wpIn_val (fun _ h => by cases h) (ex_load _ ⟨Z0.heap.size, 0, none⟩ (.tmp 10) _ rfl (hold 10 (fun j hj => low (by decide))) (load_in n0)) ⟨_, rfl, fun x hx => Option.some.inj (Option.some.inj hx), rfl, rfl⟩)
          · intro a' u vs hI hold hdep
            obtain rfl : u = W.drew := hI
            exact opAt_plain rfl (wpIn_val (fun _ h => by cases h) (ex_load _ ⟨bw, 0, none⟩ (.tmp 8) _ rfl (hold 8 (fun j hj => low (by decide))) (load_sE wt0)) ⟨_, rfl, fun x hx => Option.some.inj (Option.some.inj hx), rfl, rfl⟩)
          · intro a' u vs hI hold hdep
            obtain rfl : u = W.drew := hI
            have h1 := hdep ⟨1, .data⟩ (by simp) rfl (by decide)
            have e1 := h1.1.trans (h1.2 _ rfl)
            exact opAt_plain rfl (wpIn_val (fun _ h => by cases h) (ex_len 47 _ _ _ rfl e1) ⟨_, rfl, fun x hx => Option.some.inj (Option.some.inj hx), rfl, rfl⟩)
          · intro a' u vs hI hold hdep
            obtain rfl : u = W.drew := hI
            have h0 := hdep ⟨0, .data⟩ (by simp) rfl (by decide)
            have e0 := h0.1.trans (h0.2 _ rfl)
            have h2 := hdep ⟨2, .data⟩ (by simp) rfl (by decide)
            have e2 := h2.1.trans (h2.2 _ rfl)
            exact opAt_plain rfl (wpIn_val (fun _ h => by cases h) (ex_geq (.tmp 46) (.tmp 48) _ _ _ rfl e0 e2 (decide_eq_false (by omega))) ⟨_, rfl, fun x hx => Option.some.inj (Option.some.inj hx), rfl, rfl⟩)
          · intro a' u vs hI hold hdep
            obtain rfl : u = W.drew := hI
            have h3 := hdep ⟨3, .data⟩ (by simp) rfl (by decide)
            have e3 := h3.1.trans (h3.2 _ rfl)
            exact opAt_plain rfl (wpIn_val (fun _ h => by cases h) (ex_move (.tmp 49) _ rfl e3) ⟨_, rfl, fun x hx => Option.some.inj (Option.some.inj hx), rfl, rfl⟩)
          · intro a' u vs hI hold hdep
            obtain rfl : u = W.drew := hI
            have hg := hdep ⟨4, .guard⟩ (by simp) rfl (by decide)
            have eg := hg.1.trans (hg.2 _ rfl)
            exact opAt_go (j := 4) (t := 50) (b := false) rfl rfl eg (wpIn_val (fun _ h => by cases h) (ex_load _ ⟨b, 0, none⟩ (.tmp 12) _ rfl (hold 12 (fun j hj => low (by decide))) (load_pre p0 p1)) ⟨_, rfl, fun x hx => Option.some.inj (Option.some.inj hx), rfl, rfl⟩)
          · intro a' u vs hI hold hdep
            obtain rfl : u = W.drew := hI
            have hg := hdep ⟨4, .guard⟩ (by simp) rfl (by decide)
            have eg := hg.1.trans (hg.2 _ rfl)
            exact opAt_go (j := 4) (t := 50) (b := false) rfl rfl eg (wpIn_val (fun _ h => by cases h) (ex_load _ ⟨bw, 0, none⟩ (.tmp 8) _ rfl (hold 8 (fun j hj => low (by decide))) (load_sE wt0)) ⟨_, rfl, fun x hx => Option.some.inj (Option.some.inj hx), rfl, rfl⟩)
          · intro a' u vs hI hold hdep
            obtain rfl : u = W.drew := hI
            have hg := hdep ⟨4, .guard⟩ (by simp) rfl (by decide)
            have eg := hg.1.trans (hg.2 _ rfl)
            exact opAt_go (j := 4) (t := 50) (b := false) rfl rfl eg (wpIn_val (fun _ h => by cases h) (ex_load _ ⟨Z0.heap.size, 0, none⟩ (.tmp 10) _ rfl (hold 10 (fun j hj => low (by decide))) (load_in n0)) ⟨_, rfl, fun x hx => Option.some.inj (Option.some.inj hx), rfl, rfl⟩)
          · intro a' u vs hI hold hdep
            obtain rfl : u = W.drew := hI
            have hg := hdep ⟨4, .guard⟩ (by simp) rfl (by decide)
            have eg := hg.1.trans (hg.2 _ rfl)
            have h6 := hdep ⟨6, .data⟩ (by simp) rfl (by decide)
            have e6 := h6.1.trans (h6.2 _ rfl)
            have h7 := hdep ⟨7, .data⟩ (by simp) rfl (by decide)
            have e7 := h7.1.trans (h7.2 _ rfl)
            exact opAt_go (j := 4) (t := 50) (b := false) rfl rfl eg (wpIn_val (fun _ h => by cases h) (ex_index _ (.tmp 52) (.tmp 53) _ _ _ rfl e6 e7 (idx_en hin _)) ⟨_, rfl, fun x hx => Option.some.inj (Option.some.inj hx), rfl, rfl⟩)
          · intro a' u vs hI hold hdep
            obtain rfl : u = W.drew := hI
            have hg := hdep ⟨4, .guard⟩ (by simp) rfl (by decide)
            have eg := hg.1.trans (hg.2 _ rfl)
            have h8 := hdep ⟨8, .data⟩ (by simp) rfl (by decide)
            have e8 := h8.1.trans (h8.2 _ rfl)
            exact opAt_go (j := 4) (t := 50) (b := false) rfl rfl eg (wpIn_val (fun _ h => by cases h) (ex_field _ _ (.tmp 54) 0 _ rfl e8 (fld_rE _).1) ⟨_, rfl, fun x hx => Option.some.inj (Option.some.inj hx), rfl, rfl⟩)
          · intro a' u vs hI hold hdep
            obtain rfl : u = W.drew := hI
            have hg := hdep ⟨4, .guard⟩ (by simp) rfl (by decide)
            have eg := hg.1.trans (hg.2 _ rfl)
            have h9 := hdep ⟨9, .data⟩ (by simp) rfl (by decide)
            have e9 := h9.1.trans (h9.2 _ rfl)
            exact opAt_go (j := 4) (t := 50) (b := false) rfl rfl eg (wpIn_val (fun _ h => by cases h) (ex_load _ ⟨g, i * 3, none⟩ (.tmp 55) _ rfl e9 (load_pre c0 c1)) ⟨_, rfl, fun x hx => Option.some.inj (Option.some.inj hx), rfl, rfl⟩)
          · intro a' u vs hI hold hdep
            obtain rfl : u = W.drew := hI
            have hg := hdep ⟨4, .guard⟩ (by simp) rfl (by decide)
            have eg := hg.1.trans (hg.2 _ rfl)
            have h5 := hdep ⟨5, .data⟩ (by simp) rfl (by decide)
            have e5 := h5.1.trans (h5.2 _ rfl)
            have h10 := hdep ⟨10, .data⟩ (by simp) rfl (by decide)
            have e10 := h10.1.trans (h10.2 _ rfl)
            exact opAt_go (j := 4) (t := 50) (b := false) rfl rfl eg (wpIn_val (fun _ h => by cases h) (ex_neqK (.tmp 51) (.tmp 56) ek rfl e5 e10) ⟨_, rfl, fun x hx => Option.some.inj (Option.some.inj hx), rfl, rfl⟩)
          · intro a' u vs hI hold hdep
            obtain rfl : u = W.drew := hI
            have h4 := hdep ⟨4, .data⟩ (by simp) rfl (by decide)
            have e4 := h4.1.trans (h4.2 _ rfl)
            have h11 := hdep ⟨11, .data⟩ (by simp) rfl (by decide)
            have e11 := h11.1.trans (h11.2 _ rfl)
            exact opAt_plain rfl (wpIn_val (fun _ h => by cases h) (ex_pickF (.tmp 50) (.tmp 57) _ rfl e4 e11) ⟨_, rfl, fun x hx => Option.some.inj (Option.some.inj hx), rfl, rfl⟩)
          · intro a' u vs hI hold hdep
            obtain rfl : u = W.drew := hI
            have h12 := hdep ⟨12, .data⟩ (by simp) rfl (by decide)
            have e12 := h12.1.trans (h12.2 _ rfl)
            exact opAt_plain rfl (wpIn_val (fun _ h => by cases h) (ex_move (.tmp 58) _ rfl e12) ⟨_, rfl, fun x hx => Option.some.inj (Option.some.inj hx), rfl, rfl⟩)
          · intro a' u vs hI hold hdep
            obtain rfl : u = W.drew := hI
            have hg := hdep ⟨13, .guard⟩ (by simp) rfl (by decide)
            have eg := hg.1.trans (hg.2 _ rfl)
            exact opAt_go (j := 13) (t := 59) (b := false) rfl rfl eg (wpIn_val (fun _ h => by cases h) (ex_move (.tmp 13) _ rfl (hold 13 (fun j hj => low (by decide)))) ⟨_, rfl, fun x hx => Option.some.inj (Option.some.inj hx), rfl, rfl⟩)
          · intro a' u vs hI hold hdep
            obtain rfl : u = W.drew := hI
            have hg := hdep ⟨13, .guard⟩ (by simp) rfl (by decide)
            have eg := hg.1.trans (hg.2 _ rfl)
            exact opAt_go (j := 13) (t := 59) (b := false) rfl rfl eg (wpIn_val (fun _ h => by cases h) (ex_load _ ⟨bw, 0, none⟩ (.tmp 8) _ rfl (hold 8 (fun j hj => low (by decide))) (load_sE wt0)) ⟨_, rfl, fun x hx => Option.some.inj (Option.some.inj hx), rfl, rfl⟩)
          · intro a' u vs hI hold hdep
            obtain rfl : u = W.drew := hI
            have hg := hdep ⟨13, .guard⟩ (by simp) rfl (by decide)
            have eg := hg.1.trans (hg.2 _ rfl)
            exact opAt_go (j := 13) (t := 59) (b := false) rfl rfl eg (wpIn_val (fun _ h => by cases h) (ex_load _ ⟨Z0.heap.size, 0, none⟩ (.tmp 10) _ rfl (hold 10 (fun j hj => low (by decide))) (load_in n0)) ⟨_, rfl, fun x hx => Option.some.inj (Option.some.inj hx), rfl, rfl⟩)
          · intro a' u vs hI hold hdep
            obtain rfl : u = W.drew := hI
            have hg := hdep ⟨13, .guard⟩ (by simp) rfl (by decide)
            have eg := hg.1.trans (hg.2 _ rfl)
            have h15 := hdep ⟨15, .data⟩ (by simp) rfl (by decide)
            have e15 := h15.1.trans (h15.2 _ rfl)
            have h16 := hdep ⟨16, .data⟩ (by simp) rfl (by decide)
            have e16 := h16.1.trans (h16.2 _ rfl)
            exact opAt_go (j := 13) (t := 59) (b := false) rfl rfl eg (wpIn_val (fun _ h => by cases h) (ex_index _ (.tmp 61) (.tmp 62) _ _ _ rfl e15 e16 (idx_en hin _)) ⟨_, rfl, fun x hx => Option.some.inj (Option.some.inj hx), rfl, rfl⟩)
          · intro a' u vs hI hold hdep
            obtain rfl : u = W.drew := hI
            have hg := hdep ⟨13, .guard⟩ (by simp) rfl (by decide)
            have eg := hg.1.trans (hg.2 _ rfl)
            have h17 := hdep ⟨17, .data⟩ (by simp) rfl (by decide)
            have e17 := h17.1.trans (h17.2 _ rfl)
            exact opAt_go (j := 13) (t := 59) (b := false) rfl rfl eg (wpIn_val (fun _ h => by cases h) (ex_field _ _ (.tmp 63) 1 _ rfl e17 (fld_rE _).2) ⟨_, rfl, fun x hx => Option.some.inj (Option.some.inj hx), rfl, rfl⟩)
          · intro a' u vs hI hold hdep
            obtain rfl : u = W.drew := hI
            have hg := hdep ⟨13, .guard⟩ (by simp) rfl (by decide)
            have eg := hg.1.trans (hg.2 _ rfl)
            have h18 := hdep ⟨18, .data⟩ (by simp) rfl (by decide)
            have e18 := h18.1.trans (h18.2 _ rfl)
            exact opAt_go (j := 13) (t := 59) (b := false) rfl rfl eg (wpIn_val (fun _ h => by cases h) (ex_load _ ⟨g, i * 3 + 2, none⟩ (.tmp 64) _ rfl e18 (load_in c2)) ⟨_, rfl, fun x hx => Option.some.inj (Option.some.inj hx), rfl, rfl⟩)
          · intro a' u vs hI hold hdep
            obtain rfl : u = W.drew := hI
            have hg := hdep ⟨13, .guard⟩ (by simp) rfl (by decide)
            have eg := hg.1.trans (hg.2 _ rfl)
            have h14 := hdep ⟨14, .data⟩ (by simp) rfl (by decide)
            have e14 := h14.1.trans (h14.2 _ rfl)
            have h19 := hdep ⟨19, .data⟩ (by simp) rfl (by decide)
            have e19 := h19.1.trans (h19.2 _ rfl)
            exact opAt_go (j := 13) (t := 59) (b := false) rfl rfl eg (wpIn_val (fun _ h => by cases h) (ex_neqI (.tmp 60) (.tmp 65) _ rfl e14 e19) ⟨_, rfl, fun x hx => Option.some.inj (Option.some.inj hx), rfl, rfl⟩)
        intro vs V2 hV2 hF
        subst hV2
        have f0 := hF 0 (by decide) _ rfl
        have f1 := hF 1 (by decide) _ rfl
        have f2 := hF 2 (by decide) _ rfl
        have f3 := hF 3 (by decide) _ rfl
        have f4 := hF 4 (by decide) _ rfl
        have f5 := hF 5 (by decide) _ rfl
        have f6 := hF 6 (by decide) _ rfl
        have f7 := hF 7 (by decide) _ rfl
        have f8 := hF 8 (by decide) _ rfl
        have f9 := hF 9 (by decide) _ rfl
        have f10 := hF 10 (by decide) _ rfl
        have f11 := hF 11 (by decide) _ rfl
        have f12 := hF 12 (by decide) _ rfl
        have f13 := hF 13 (by decide) _ rfl
        have f14 := hF 14 (by decide) _ rfl
        have f15 := hF 15 (by decide) _ rfl
        have f16 := hF 16 (by decide) _ rfl
        have f17 := hF 17 (by decide) _ rfl
        have f18 := hF 18 (by decide) _ rfl
        have f19 := hF 19 (by decide) _ rfl
        have f20 := hF 20 (by decide) _ rfl
        simp only [List.drop_succ_cons, List.drop_zero, puts, List.range, List.range.loop, List.foldr, Nat.reduceAdd, if_true, f0, f1, f2, f3, f4, f5, f6, f7, f8, f9, f10, f11, f12, f13, f14, f15, f16, f17, f18, f19, f20, Act.put, List.setIfInBounds_toArray, List.set_cons_zero, List.set_cons_succ]
        clear hF f0 f1 f2 f3 f4 f5 f6 f7 f8 f9 f10 f11 f12 f13 f14 f15 f16 f17 f18 f19 f20
        gi_wp2
        exact HFIN.out _ (by rfl) (by rfl) (by rfl) (by rfl)
      case done1 =>
        rintro D1 W hD ⟨i1, i2, i3, i4⟩ hK
        have hwb := HKZ0.out.below i2
        have n0 : W.cell? ⟨Z0.heap.size, 0, none⟩ = some (.int .i64 ((entsIn (ents m.tr) x y).length : Int)) := by rw [cell_of_row _ _ _ _ _ _ i3]; rfl
        have l0 : W.cell? ⟨Z0.heap.size + 1, 0, none⟩ = some (.bool false) := by rw [cell_of_row _ _ _ _ _ _ i4]; rfl
        have r0 : W.cell? ⟨rbx1, 0, none⟩ = some (.int .i64 1) := by rw [cell_of_row _ _ _ _ _ _ (below_keeps i2 RR1.out (Array.getElem?_eq_some_iff.1 RR1.out).1)]; rfl
        obtain ⟨ao, nE, cap, hvw, HNE, hnc, hcm⟩ := hwb.en.shape
        have hwt := hwb.wt
        rw [hvw] at hwt
        have wt0 : W.cell? ⟨bw, 0, none⟩ = some (.slice ao nE cap) := by rw [cell_of_row _ _ _ _ _ _ hwt]; rfl
        rw [← HNE.out] at n0
        obtain ⟨Z1, HZ1⟩ : ∃ Z1, Hid (Z1 = W.alloc (.cells #[.int .i64 2] 3)) := ⟨_, rfl⟩
        have hbZ1 : Below W.heap.size W Z1 := by rw [HZ1.out]; exact (Below.refl _ _).alloc (Nat.le_refl _) _
        have HKZ1 := hid (hwb.below hbZ1)
        have RR2 : Hid (Z1.heap[W.heap.size]? = some (.cells #[.int .i64 2] 3)) := by rw [HZ1.out]; exact heap_alloc_new W _
        have HD1Z1 : Hid (Z1.heap[D1]? = some (.deferred (some []))) := below_keeps hbZ1 hK (Array.getElem?_eq_some_iff.1 hK).1
        have HDW1 := hid hD
        have HSW1 : Hid (w.heap.size + 2 ≤ W.heap.size) := by have h1 := (Array.getElem?_eq_some_iff.1 hwb.rs).1; unfold Hid; omega
        have HD0Z1 : Hid (Z1.heap[D0]? = some (.deferred (some []))) := by
          have h1 := (Array.getElem?_eq_some_iff.1 HD0Z0.out).1
          have h2 := below_keeps i2 HD0Z0.out h1
          exact below_keeps hbZ1 h2 (Array.getElem?_eq_some_iff.1 h2).1
        have HDS1 : Hid (w.heap.size + 2 ≤ D1) := by have h1 := (Array.getElem?_eq_some_iff.1 HKZ0.out.rs).1; have h2 := HSU1.out; unfold Hid; omega
        have HDN : Hid (D1 ≠ D0) := by have h1 := (Array.getElem?_eq_some_iff.1 HD0Z0.out).1; have h2 := HSU1.out; unfold Hid; omega
        obtain ⟨rbx2, Hrbx2⟩ : ∃ q, Hid (q = W.heap.size) := ⟨_, rfl⟩
        rw [← Hrbx2.out] at RR2
        clear hwb hwt i1 i2 i3 i4 hK hD hbZ1 hvw
        go_wp2_with fail
        rw [← HZ1.out, ← Hrbx2.out]
        have q0 : Z1.cell? ⟨rbx2, 0, none⟩ = some (.int .i64 2) := by rw [cell_of_row _ _ _ _ _ _ RR2.out]; rfl
        have hwb := HKZ1.out
        have rs0 : Z1.cell? ⟨w.heap.size + 1, 0, none⟩ = some (.bool false) := by rw [cell_of_row _ _ _ _ _ _ hwb.rs]; rfl
        have rsf : Z1.frozen? ⟨w.heap.size + 1, 0, none⟩ = false := frozen_of_row _ _ _ _ _ hwb.rs
        obtain ⟨Y2, hY2⟩ : ∃ Y2, Y2 = Z1.setCell ⟨w.heap.size + 1, 0, none⟩ (.bool true) := ⟨_, rfl⟩
        have bt : But (w.heap.size + 1) Z1 Y2 := by rw [hY2]; exact But.set _ _ _ _
        have hsz := (Array.getElem?_eq_some_iff.1 hwb.rs).1
        have RS : Hid (Y2.heap[w.heap.size + 1]? = some (.cells #[.bool true] 4)) := by rw [hY2]; exact set_row hwb.rs
        have HBY : Hid (Below w.heap.size w Y2) := bt.below hwb.bel (by omega) (by omega)
        have hd0 := HDW0.out
        have hd1 := HDW1.out
        have E0 : Hid (Y2.heap[D0]? = some (.deferred (some []))) := (bt.block _ (Array.getElem?_eq_some_iff.1 HD0Z1.out).1 (by have := HDS0.out; omega)).trans HD0Z1.out
        have E1 : Hid (Y2.heap[D1]? = some (.deferred (some []))) := (bt.block _ (Array.getElem?_eq_some_iff.1 HD1Z1.out).1 (by have := HDS1.out; omega)).trans HD1Z1.out
        have HY2 := hid hY2
        clear hwb hY2 bt hsz hd0 hd1
        rw [rounds_succ]
        go_wp2_with fail
        rw [← HY2.out]
        have hK0 := E0.out
        have hK1 := E1.out
        have hne : D1 ≠ D0 := HDN.out
        have hK0' : (Y2.putObj D1 (.deferred none)).heap[D0]? = some (.deferred (some [])) := (World.putObj_heap_other (fun e => hne e.symm)).trans hK0
        have hf1 : Below w.heap.size w (Y2.putObj D1 (.deferred none)) := HBY.out.trans (belowK_b (w := w) (Nat.le_refl _) Y2 D1 _ _ (by have := HDS1.out; omega) hK1 rfl rfl)
        have hf0 : Below w.heap.size w ((Y2.putObj D1 (.deferred none)).putObj D0 (.deferred none)) := hf1.trans (belowK_b (w := w) (Nat.le_refl _) _ D0 _ _ (by have := HDS0.out; omega) hK0' rfl rfl)
        have rz : ((Y2.putObj D1 (.deferred none)).putObj D0 (.deferred none)).heap[w.heap.size + 1]? = some (.cells #[.bool true] 4) := (World.putObj_heap_other (by have := HDS0.out; omega)).trans ((World.putObj_heap_other (by have := HDS1.out; omega)).trans RS.out)
        have g0 : ((Y2.putObj D1 (.deferred none)).putObj D0 (.deferred none)).cell? ⟨w.heap.size + 1, 0, none⟩ = some (.bool true) := by rw [cell_of_row _ _ _ _ _ _ rz]; rfl
        refine ⟨by simp, .inl ⟨_, _, rfl, run_takeDeferred hK1, by simp, .inl ⟨_, _, rfl, run_takeDeferred hK0', ?_⟩⟩⟩
        exact ⟨_, (by simp [results, Try.results48, go_sem, g0]), rfl, hf0⟩
      case stop1 =>
        rintro D c W hD h hK
        exact h.elim

end Go.Proofs.Ytmnafocmbcgdiab
