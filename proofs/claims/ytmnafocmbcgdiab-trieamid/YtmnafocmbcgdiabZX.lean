import Derived.Test.YtmnafocmbcgdiabXF
import Derived.Test.YtmnafocmbcgdiabWS
import Derived.Test.YtmnafocmbcgdiabWT
import Derived.Deep.QuietTactic
import Derived.BigQuiet
import Derived.StillTailTactics
import Derived.Deep.Slices
import Derived.Deep.SlicePairs
import Derived.SizedLaws
/-
  weftlaw8.walks.
-/
namespace Go.Proofs.Ytmnafocmbcgdiab
open Go.ChangeShapes Go.WideShapes Go.ChangeAt Go.RowKit Go.Shelf Tri N
attribute [local go_sem] Oper.semAt_some
set_option maxHeartbeats 16000000
set_option maxRecDepth 100000

/-- What walks has laid. -/
structure WkB (w V : World) (bw pbx tbx tb x : Nat) (y : Int) (m : MT) (vw : Value) (E : List (K × Int)) (oc : Array Value) : Prop where
  bel : Below w.heap.size w V
  ob : V.heap[w.heap.size]? = some (.cells oc 71)
  rs : V.heap[w.heap.size + 1]? = some (.cells #[.bool false] 4)
  wt : V.heap[bw]? = some (.cells #[vw] 73)
  sq : SeqB V (fun b => b = tb) pbx tbx tb x y m
  en : OwnE V w.heap.size vw E

theorem WkB.below {w V W : World} {bw pbx tbx tb x : Nat} {y : Int} {m : MT} {vw : Value} {E : List (K × Int)} {oc : Array Value} (h : WkB w V bw pbx tbx tb x y m vw E oc) (hb : Below V.heap.size V W) : WkB w W bw pbx tbx tb x y m vw E oc :=
  ⟨h.bel.trans (hb.mono h.bel.size), below_keeps hb h.ob (Array.getElem?_eq_some_iff.1 h.ob).1, below_keeps hb h.rs (Array.getElem?_eq_some_iff.1 h.rs).1, below_keeps hb h.wt (Array.getElem?_eq_some_iff.1 h.wt).1, h.sq.below hb, h.en.below hb⟩

theorem eq_seq (f : FuncId) (a b : Array Value) (u : World) : (binOp .eql 55 (.func (.func f) a b) .nilFunc).run Try.prog u = .ok (.bool false) u := by
  kernel_rfl

theorem ex_len {o : Oper} {a : Act} {w : World} (t : Nat) (ao : Option Addr) (n c : Nat) (ho : o.op = .call { callee := .builtin .len, args := #[.tmp t], argTypes := #[73] }) (hx : a.eval (.tmp t) = .slice ao n c) : (execOp a.eval o).run Try.prog w = .ok (.value (.int .i64 (n : Int))) w := by
  have hx' : a.tmps[t]?.getD undef = .slice ao n c := by simpa [Act.eval] using hx
  simp only [execOp, ho]
  simp [hx', go_sem]
theorem ex_geq {o : Oper} {a : Act} {w : World} (x y : Operand) (i j : Int) (b : Bool) (ho : o.op = .binOp .geq 3 x y 3) (hx : a.eval x = .int .i64 i) (hy : a.eval y = .int .i64 j) (hb : decide (j ≤ i) = b) : (execOp a.eval o).run Try.prog w = .ok (.value (.bool b)) w := by
  simp only [execOp, ho, hx, hy]
  simp [go_sem, eqGuard, ← hb]
theorem ex_neqK {o : Oper} {a : Act} {w : World} (x y : Operand) (ek : K) (ho : o.op = .binOp .neq 31 x y 31) (hx : a.eval x = .agg #[.int .u32 (ek.x : Int), .int .i64 (ek.n : Int)]) (hy : a.eval y = .agg #[.int .u32 (ek.x : Int), .int .i64 (ek.n : Int)]) : (execOp a.eval o).run Try.prog w = .ok (.value (.bool false)) w := by
  simp only [execOp, ho, hx, hy]
  simp [go_sem, eqGuard]
theorem ex_neqI {o : Oper} {a : Act} {w : World} (x y : Operand) (i : Int) (ho : o.op = .binOp .neq 3 x y 3) (hx : a.eval x = .int .i64 i) (hy : a.eval y = .int .i64 i) : (execOp a.eval o).run Try.prog w = .ok (.value (.bool false)) w := by
  simp only [execOp, ho, hx, hy]
  simp [go_sem, eqGuard]
theorem ex_pickF {o : Oper} {a : Act} {w : World} (x y : Operand) (z : Value) (ho : o.op = .pick x (.const (.bool true)) y) (hx : a.eval x = .bool false) (hy : a.eval y = z) : (execOp a.eval o).run Try.prog w = .ok (.value z) w := by
  simp only [execOp, ho, hx, hy]
  simp [go_sem]

theorem walks_any {w : World} {tb rb x0 A : Nat} {k s y0 a : Int} {v : Value} {t : Tr} {L : List (K × Int)} (hD : Duo w tb rb v t L) (hx : x0 < 4294967296) (hlen : L.length ≤ 4000000000000) :
    Calls Try.prog 48 #[.pointer (some ⟨tb, 0, none⟩), .pointer (some ⟨rb, 0, none⟩), .agg (oCells k s x0 y0 A a)] w fun e w' => e = .returned (.bool true) ∧ Below w.heap.size w w' := by
  have hE : L = ents t := Same.eq hD.same hD.ris hD.tr.wf
  obtain ⟨m, hrow, hmt, hL⟩ := hD.tr.tree
  have HWF : Hid (WF top.x (top.x + top.s) m.tr) := by unfold Hid; rw [hmt]; exact hD.tr.wf
  have HNM : Hid (nodes m.tr ≤ 10000000000) := by
    have h := WF_nodes HWF.out
    rw [show top.x = 0 from rfl, top_s] at h
    unfold Hid; omega
  rw [← hmt] at hE
  obtain ⟨w1, HW1⟩ : ∃ w1, Hid (w1 = (w.alloc (.cells (oCells k s x0 y0 A a) 71)).alloc (.cells #[.bool false] 4)) := ⟨_, rfl⟩
  have hb1 : Below w.heap.size w w1 := by rw [HW1.out]; exact ((Below.refl _ _).alloc (Nat.le_refl _) _).alloc (by simp) _
  have hs1 : w1.heap.size = w.heap.size + 2 := by rw [HW1.out]; simp
  have ro : w1.heap[w.heap.size]? = some (.cells (oCells k s x0 y0 A a) 71) := by rw [HW1.out, Below.heap_alloc _ _ _ (by simp)]; exact heap_alloc_new w _
  have rr : w1.heap[w.heap.size + 1]? = some (.cells #[.bool false] 4) := by
    have h := heap_alloc_new (w.alloc (.cells (oCells k s x0 y0 A a) 71)) (.cells #[.bool false] 4)
    rw [World.size_alloc] at h
    rw [HW1.out]; exact h
  obtain ⟨w2, HW2⟩ : ∃ w2, Hid (w2 = (w1.alloc (.cells #[.pointer (some ⟨tb, 0, none⟩)] 24)).alloc (.cells #[.int .u32 ((0 : Nat) : Int), .int .i64 0] 31)) := ⟨_, rfl⟩
  have hb2 : Below w1.heap.size w1 w2 := by rw [HW2.out]; exact ((Below.refl _ _).alloc (Nat.le_refl _) _).alloc (by simp) _
  have ht2 : w2.heap[w1.heap.size]? = some (.cells #[.pointer (some ⟨tb, 0, none⟩)] 24) := by rw [HW2.out, Below.heap_alloc _ _ _ (by simp)]; exact heap_alloc_new w1 _
  have hp2 : w2.heap[w1.heap.size + 1]? = some (.cells #[.int .u32 ((0 : Nat) : Int), .int .i64 0] 31) := by
    have h := heap_alloc_new (w1.alloc (.cells #[.pointer (some ⟨tb, 0, none⟩)] 24)) (.cells #[.int .u32 ((0 : Nat) : Int), .int .i64 0] 31)
    rw [World.size_alloc] at h
    rw [HW2.out]; exact h
  have hb02 : Below w.heap.size w w2 := hb1.trans (hb2.mono hb1.size)
  have HSQ2 : Hid (SeqB w2 (fun b => b = tb) (w1.heap.size + 1) w1.heap.size tb 0 0 m) := ⟨hL.below hb02, hp2, ht2, below_keeps hb02 hrow (Array.getElem?_eq_some_iff.1 hrow).1⟩
  have HA1 := hid (all_new (tb := tb) w1)
  rw [← HW2.out] at HA1
  have HA2 := hid (allR_any w2 (hD.ref.below hb02) hlen)
  have HO2 : Hid (w2.heap[w.heap.size]? = some (.cells (oCells k s x0 y0 A a) 71) ∧ w2.heap[w.heap.size + 1]? = some (.cells #[.bool false] 4)) := ⟨below_keeps hb2 ro (by omega), below_keeps hb2 rr (by omega)⟩
  have HB02 := hid hb02
  have HS1 := hid hs1
  have HX0 := hid hx
  have HLE := hid hlen
  have HEL := hid hE
  have HROW := hid hrow
  have HLI := hid hL
  have HRF := hid hD.ref
  have HW1' : Hid (w1 = (w.alloc (.cells #[.int .i64 k, .int .i64 s, .int .u32 (x0 : Int), .int .i64 y0, .int .u32 (A : Int), .int .i64 a] 71)).alloc (.cells #[.bool false] 4)) := HW1.out
  unfold oCells
  clear hE hrow hL hb1 hs1 ro rr hb2 ht2 hp2 hb02 hD hx hlen hmt
  refine (callsIn_wide (n := 9)).1 ?_
  refine callsIn_of_wp_marks Try.func48 rfl trivial ?_ rfl
  refine wpIn_wide.2 ?_
  simp only [Try.ntmps48, List.size_toArray, List.length_cons, List.length_nil, Nat.reduceAdd, Nat.reduceSub, Array.replicate_succ, Array.replicate_zero, List.push_toArray, List.append_toArray, List.nil_append, List.cons_append]
  go_upto_region 1 with fail
  rw [← HW1'.out]
  go_wp2_with fail
  refine HA1.out.mono ?_
  rintro _ _ ⟨rfl, ew⟩
  obtain rfl := ew.symm
  go_wp2_with fail
  refine HA2.out.mono ?_
  rintro _ w3 ⟨⟨v3, rfl, ho3⟩, hb3⟩
  obtain ⟨ao3, n3, cap3, rfl, _, _, _⟩ := ho3.shape
  obtain ⟨w4, HW4⟩ : ∃ w4, Hid (w4 = w3.alloc (.cells #[.slice ao3 n3 cap3] 73)) := ⟨_, rfl⟩
  have hb4 : Below w3.heap.size w3 w4 := by rw [HW4.out]; exact (Below.refl _ _).alloc (Nat.le_refl _) _
  have hb24 : Below w2.heap.size w2 w4 := hb3.trans (hb4.mono hb3.size)
  obtain ⟨bw, HBW⟩ : ∃ bw, Hid (bw = w3.heap.size) := ⟨_, rfl⟩
  have HBG : Hid (w.heap.size ≤ bw) := by unfold Hid; rw [HBW.out]; exact Nat.le_trans HB02.out.size hb3.size
  have rw4 : w4.heap[bw]? = some (.cells #[.slice ao3 n3 cap3] 73) := by rw [HW4.out, HBW.out]; exact heap_alloc_new w3 _
  have HK4 : Hid (WkB w w4 bw (w1.heap.size + 1) w1.heap.size tb 0 0 m (.slice ao3 n3 cap3) (entsIn (ents m.tr) 0 0) (oCells k s x0 y0 A a)) := by
    refine ⟨HB02.out.trans (hb24.mono HB02.out.size), below_keeps hb24 HO2.out.1 (Array.getElem?_eq_some_iff.1 HO2.out.1).1, below_keeps hb24 HO2.out.2 (Array.getElem?_eq_some_iff.1 HO2.out.2).1, rw4, HSQ2.out.below hb24, ?_⟩
    rw [entsIn_all HWF.out, ← HEL.out]
    exact (ho3.below hb4).base HB02.out.size
  have x00 : w4.cell? ⟨w.heap.size, 0, none⟩ = some (.int .i64 k) := by rw [cell_of_row _ _ _ _ _ _ HK4.out.ob]; rfl
  clear ho3 hb3 hb4 hb24 rw4 HA1 HA2
  go_upto_region 3 with fail
  rw [← HW4.out, ← HBW.out]
  go_upto_if 20 with fail
  go_cut [7] from 14 (fun sq V => ∃ (pbx tbx x : Nat) (y : Int) (vw : Value), sq = .func (.func 41) #[] #[.pointer (some ⟨pbx, 0, none⟩), .pointer (some ⟨tbx, 0, none⟩)] ∧ Hid (x < 4294967296) ∧ Hid (WkB w V bw pbx tbx tb x y m vw (entsIn (ents m.tr) x y) (oCells k s x0 y0 A a)))
  case first =>
    by_cases h6 : k = 6
    · have z6 : (k == 6) = true := by simp [h6]
      clear h6
      obtain ⟨w5, HW5⟩ : ∃ w5, Hid (w5 = (w4.alloc (.cells #[.pointer (some ⟨tb, 0, none⟩)] 24)).alloc (.cells #[.int .u32 (x0 : Int), .int .i64 y0] 31)) := ⟨_, rfl⟩
      have hb5 : Below w4.heap.size w4 w5 := by rw [HW5.out]; exact ((Below.refl _ _).alloc (Nat.le_refl _) _).alloc (by simp) _
      have ht5 : w5.heap[w4.heap.size]? = some (.cells #[.pointer (some ⟨tb, 0, none⟩)] 24) := by rw [HW5.out, Below.heap_alloc _ _ _ (by simp)]; exact heap_alloc_new w4 _
      have hp5 : w5.heap[w4.heap.size + 1]? = some (.cells #[.int .u32 (x0 : Int), .int .i64 y0] 31) := by
        have h := heap_alloc_new (w4.alloc (.cells #[.pointer (some ⟨tb, 0, none⟩)] 24)) (.cells #[.int .u32 (x0 : Int), .int .i64 y0] 31)
        rw [World.size_alloc] at h
        rw [HW5.out]; exact h
      have hwb4 := HK4.out
      have hk5 := hwb4.below hb5
      have HK5 := hid hk5
      have HSQ5 : Hid (SeqB w5 (fun b => b = tb) (w4.heap.size + 1) w4.heap.size tb x0 y0 m) := ⟨hk5.sq.ls, hp5, ht5, hk5.sq.rt⟩
      have HN1 := hid (within_new (tb := tb) (x := x0) (y := y0) w4)
      rw [← HW5.out] at HN1
      have x2 : w4.cell? ⟨w.heap.size, 2, none⟩ = some (.int .u32 (x0 : Int)) := by rw [cell_of_row _ _ _ _ _ _ hwb4.ob]; rfl
      have x3 : w4.cell? ⟨w.heap.size, 3, none⟩ = some (.int .i64 y0) := by rw [cell_of_row _ _ _ _ _ _ hwb4.ob]; rfl
      have u2 : w5.cell? ⟨w.heap.size, 2, none⟩ = some (.int .u32 (x0 : Int)) := by rw [cell_of_row _ _ _ _ _ _ hk5.ob]; rfl
      have u3 : w5.cell? ⟨w.heap.size, 3, none⟩ = some (.int .i64 y0) := by rw [cell_of_row _ _ _ _ _ _ hk5.ob]; rfl
      have HN2 : Hid (Calls Try.prog 31 #[.pointer (some ⟨rb, 0, none⟩), qv x0 y0] w5 fun e w' => (∃ v', e = .returned v' ∧ OwnE w' w.heap.size v' (entsIn (ents m.tr) x0 y0)) ∧ Below w5.heap.size w5 w') := by
        have hR5 := HRF.out.below hk5.bel
        rcases bad_or (y := y0) HX0.out with hb | ⟨q, hq, rfl, rfl⟩
        · refine (withinR_bad w5 HX0.out hb).mono ?_
          rintro _ w6 ⟨rfl, hb6⟩
          refine ⟨⟨_, rfl, ?_⟩, hb6⟩
          unfold entsIn
          rw [valB_bad hb]
          exact World.ownsRow_nil _ _ _ _
        · refine (withinR_ok q w5 hR5 hq HLE.out).mono ?_
          rintro _ w6 ⟨⟨v', rfl, ho⟩, hb6⟩
          refine ⟨⟨_, rfl, ?_⟩, hb6⟩
          unfold entsIn
          rw [valB_ok hq, ← HEL.out]
          exact ho.base hk5.bel.size
      unfold qv at HN1 HN2
      clear hb5 ht5 hp5 hwb4 hk5 x00
      go_wp2_with fail
      refine HN1.out.mono ?_
      rintro _ _ ⟨rfl, ew⟩
      obtain rfl := ew.symm
      clear x2 x3
      have wtf : ∀ W, Below w5.heap.size w5 W → W.frozen? ⟨bw, 0, none⟩ = false ∧ W.cell? ⟨bw, 0, none⟩ = some (.slice ao3 n3 cap3) := fun W hW => by
        have h := (HK5.out.below hW).wt
        exact ⟨frozen_of_row _ _ _ _ _ h, by rw [cell_of_row _ _ _ _ _ _ h]; rfl⟩
      have WTF := hid wtf
      clear wtf
      go_wp2_with fail
      refine HN2.out.mono ?_
      rintro _ w6 ⟨⟨v6, rfl, ho6⟩, hb6⟩
      obtain ⟨ao6, n6, cap6, rfl, _, _, _⟩ := ho6.shape
      obtain ⟨f6, c6⟩ := WTF.out w6 hb6
      obtain ⟨w7, HW7⟩ : ∃ w7, Hid (w7 = w6.setCell ⟨bw, 0, none⟩ (.slice ao6 n6 cap6)) := ⟨_, rfl⟩
      have HK7 : Hid (WkB w w7 bw (w4.heap.size + 1) w4.heap.size tb x0 y0 m (.slice ao6 n6 cap6) (entsIn (ents m.tr) x0 y0) (oCells k s x0 y0 A a)) := by
        have h6 := HK5.out.below hb6
        have hs6 := HSQ5.out.below hb6
        have bt : But bw w6 w7 := by rw [HW7.out]; exact But.set _ _ _ _
        have hge : w.heap.size ≤ bw := HBG.out
        have kne : ∀ {b : Nat} {cs : Array Value} {t : TypeId}, w6.heap[b]? = some (.cells cs t) → t ≠ 73 → w7.heap[b]? = some (.cells cs t) := fun hb' hne => (bt.block _ (Array.getElem?_eq_some_iff.1 hb').1 (kinds_ne hb' h6.wt hne)).trans hb'
        have nt : NoTree w6 (fun b => b = bw) := fun b hb => by subst hb; exact kind_no h6.wt (by decide) (by decide)
        refine ⟨bt.below h6.bel h6.bel.size hge, kne h6.ob (by decide), kne h6.rs (by decide), ?_, ⟨hs6.ls.chgT nt (Chg.of_but bt rfl), kne hs6.pb (by decide), kne hs6.tx (by decide), kne hs6.rt (by decide)⟩, ?_⟩
        · rw [HW7.out]; exact set_row h6.wt
        · refine ho6.chg (Z := fun b => b = bw) (fun b hb e => ?_) (Chg.of_but bt rfl)
          obtain ⟨cs, hk⟩ := ho6.kind hb
          exact kinds_ne hk h6.wt (by decide) e
      clear ho6 hb6
      go_wp2_with fail
      rw [← HW7.out]
      go_meet
      case rel => exact ⟨_, _, _, _, _, rfl, HX0, HK7⟩
    · have z6 : (k == 6) = false := by simp [h6]
      clear h6
      go_wp2_with fail
      go_meet
      case rel => exact ⟨_, _, _, _, _, rfl, by unfold Hid; omega, HK4⟩
  case rest =>
    obtain ⟨pbx, tbx, x, y, vw, rfl, HX, HKV⟩ := hcut
    rename World => V
    clear HK4 HSQ2 HO2 x00
    obtain ⟨V0, HV0⟩ : ∃ V0, Hid (V0 = V.alloc (.cells #[.int .i64 0] 3)) := ⟨_, rfl⟩
    have hbV : Below V.heap.size V V0 := by rw [HV0.out]; exact (Below.refl _ _).alloc (Nat.le_refl _) _
    have HKV0 := hid (HKV.out.below hbV)
    obtain ⟨rbx0, Hrbx0⟩ : ∃ q, Hid (q = V.heap.size) := ⟨_, rfl⟩
    have RR0 : Hid (V0.heap[rbx0]? = some (.cells #[.int .i64 0] 3)) := by unfold Hid; rw [HV0.out, Hrbx0.out]; exact heap_alloc_new V _
    have HSZ0 : Hid (w.heap.size + 2 ≤ V0.heap.size) := by have h := (Array.getElem?_eq_some_iff.1 HKV0.out.rs).1; unfold Hid; omega
    clear hbV
    have hqf := eq_seq 41 #[] #[.pointer (some ⟨pbx, 0, none⟩), .pointer (some ⟨tbx, 0, none⟩)]
    go_upto_region 9 with fail
    clear hqf
    rw [← HV0.out, ← Hrbx0.out]
    refine wp_loop_rounds 6 ?_
    rw [rounds_succ]
    have q0 : V0.cell? ⟨rbx0, 0, none⟩ = some (.int .i64 0) := by rw [cell_of_row _ _ _ _ _ _ RR0.out]; rfl
    obtain ⟨U0, HU0⟩ : ∃ U0, Hid (U0 = (V0.alloc (.cells #[.int .i64 0] 3)).alloc (.cells #[.bool false] 4)) := ⟨_, rfl⟩
    have HSU0 : Hid (U0.heap.size = V0.heap.size + 2) := by unfold Hid; rw [HU0.out]; simp
    have HBU0 : Hid (Below V0.heap.size V0 U0) := by rw [HU0.out]; exact ((Below.refl _ _).alloc (Nat.le_refl _) _).alloc (by simp) _
    have RNU0 : Hid (U0.heap[V0.heap.size]? = some (.cells #[.int .i64 ((0 : Nat) : Int)] 3)) := by
      unfold Hid; rw [HU0.out, Below.heap_alloc _ _ _ (by simp)]; exact heap_alloc_new V0 _
    have RLU0 : Hid (U0.heap[V0.heap.size + 1]? = some (.cells #[.bool false] 4)) := by
      have h := heap_alloc_new (V0.alloc (.cells #[.int .i64 0] 3)) (.cells #[.bool false] 4)
      rw [World.size_alloc] at h
      unfold Hid; rw [HU0.out]; exact h
    go_upto_region 13 with fail
    rw [← HU0.out]
    go_wp2_with fail
    refine wpIn_wide.1 (wpIn_givesU (β := Nat) (n := 9) (F := Fence.wide) rfl (by omega) (gf := 41) (lb := #[.pointer (some ⟨pbx, 0, none⟩), .pointer (some ⟨tbx, 0, none⟩)]) rfl trivial (enters_of Try.func41 (by kernel_rfl) rfl)
      (seq_gives 8 (by omega) (fun b => b = tb) pbx tbx tb x y m HX.out HWF.out HNM.out) (fun _ => rfl)
      (fun i W => U0.heap.size ≤ W.heap.size ∧ Below V0.heap.size V0 W ∧ W.heap[V0.heap.size]? = some (.cells #[.int .i64 (i : Int)] 3) ∧ W.heap[V0.heap.size + 1]? = some (.cells #[.bool false] 4))
      (fun c W => c = .exit 2 ∧ U0.heap.size ≤ W.heap.size ∧ Below V0.heap.size V0 W ∧ (∃ i : Int, W.heap[V0.heap.size]? = some (.cells #[.int .i64 i] 3)) ∧ W.heap[V0.heap.size + 1]? = some (.cells #[.bool true] 4)) ?hI0 ?hIx0 ?hF0 ?h00
      (fun e b tt => (((tt.setIfInBounds 36 (pv e.1)).setIfInBounds 37 (.int .i64 e.2)).setIfInBounds 12 (.pointer (some ⟨b, 0, none⟩))).setIfInBounds 13 (.int .i64 e.2)) (fun e b W => U0.heap.size ≤ b ∧ W.heap[b]? = some (.cells #[.int .u32 (e.1.x : Int), .int .i64 (e.1.n : Int)] 31)) ?hAy0 ?assign0 ?body0 ?done0 ?stop0)
    case hI0 =>
      refine ownN_below (fun i W hi => hi.1) ?_
      rintro i W W' ⟨i1, i2, i3, i4⟩ hb
      have hs := HSU0.out
      exact ⟨Nat.le_trans i1 hb.size, i2.trans (hb.mono (by omega)), below_keeps hb i3 (by omega), below_keeps hb i4 (by omega)⟩
    case hIx0 =>
      refine ownN_below (fun c W hi => hi.2.1) ?_
      rintro c W W' ⟨i0, i1, i2, ⟨i, i3⟩, i4⟩ hb
      have hs := HSU0.out
      exact ⟨i0, Nat.le_trans i1 hb.size, i2.trans (hb.mono (by omega)), ⟨i, below_keeps hb i3 (by omega)⟩, below_keeps hb i4 (by omega)⟩
    case hF0 =>
      rintro i W ⟨i1, i2, i3, i4⟩
      exact HKV0.out.sq.below i2
    case h00 => exact ⟨Nat.le_refl _, HBU0.out, RNU0.out, RLU0.out⟩
    case hAy0 =>
      rintro e b _ W W' row ⟨h1, h2⟩ hg hr
      refine ⟨h1, (hg.block _ (Array.getElem?_eq_some_iff.1 h2).1 (fun he => ?_)).trans h2⟩
      obtain ⟨_, o, ho, hm⟩ := hr b he.symm
      rw [h2] at ho
      cases ho
      rcases hm with hm | ⟨cs, hm⟩ | ⟨cs, hm⟩
      · cases hm
      · injection hm with _ hm; exact absurd hm (by decide)
      · injection hm with _ hm; exact absurd hm (by decide)
    case assign0 =>
      intro l i e W K hi hx hK
      obtain ⟨W2, HW2⟩ : ∃ W2, Hid (W2 = W.alloc (.cells #[.int .u32 (e.1.x : Int), .int .i64 (e.1.n : Int)] 31)) := ⟨_, rfl⟩
      have hbW : Below W.heap.size W W2 := by rw [HW2.out]; exact (Below.refl _ _).alloc (Nat.le_refl _) _
      have hrW : W2.heap[W.heap.size]? = some (.cells #[.int .u32 (e.1.x : Int), .int .i64 (e.1.n : Int)] 31) := by rw [HW2.out]; exact heap_alloc_new W _
      obtain ⟨i1, i2, i3, i4⟩ := hi
      have hs := HSU0.out
      have HK := hK W.heap.size W2 (KeepsN.of_below hbW) ⟨Nat.le_trans i1 hbW.size, i2.trans (hbW.mono i2.size), below_keeps hbW i3 (by omega), below_keeps hbW i4 (by omega)⟩ ⟨i1, hrW⟩
      unfold pv at HK ⊢
      simp only [List.setIfInBounds_toArray, List.set_cons_zero, List.set_cons_succ] at HK ⊢
      clear hK i1 i2 i3 i4 hx hbW hrW
      gi_wp2
      rw [← HW2.out]
      exact HK
    case body0 =>
      rintro l i e b W hl _ ⟨i1, i2, i3, i4⟩ ⟨j1, j2⟩ hx
      have hwb := HKV0.out.below i2
      have hs := HSU0.out
      obtain ⟨ek, ev⟩ := e
      simp only at j2
      have p0 : W.cell? ⟨b, 0, none⟩ = some (.int .u32 (ek.x : Int)) := by rw [cell_of_row _ _ _ _ _ _ j2]; rfl
      have p1 : W.cell? ⟨b, 1, none⟩ = some (.int .i64 (ek.n : Int)) := by rw [cell_of_row _ _ _ _ _ _ j2]; rfl
      have n0 : W.cell? ⟨V0.heap.size, 0, none⟩ = some (.int .i64 (i : Int)) := by rw [cell_of_row _ _ _ _ _ _ i3]; rfl
      have nf : W.frozen? ⟨V0.heap.size, 0, none⟩ = false := frozen_of_row _ _ _ _ _ i3
      have l0 : W.cell? ⟨V0.heap.size + 1, 0, none⟩ = some (.bool false) := by rw [cell_of_row _ _ _ _ _ _ i4]; rfl
      have lf : W.frozen? ⟨V0.heap.size + 1, 0, none⟩ = false := frozen_of_row _ _ _ _ _ i4
      have r0 : W.cell? ⟨rbx0, 0, none⟩ = some (.int .i64 0) := by rw [cell_of_row _ _ _ _ _ _ (below_keeps i2 RR0.out (Array.getElem?_eq_some_iff.1 RR0.out).1)]; rfl
      have o5 : W.cell? ⟨w.heap.size, 5, none⟩ = some (.int .i64 a) := by rw [cell_of_row _ _ _ _ _ _ hwb.ob]; rfl
      obtain ⟨ao, nE, cap, hvw, HNE, hnc, hcm⟩ := hwb.en.shape
      have hin : i < nE := by have h1 := (List.getElem?_eq_some_iff.1 hx).1; have h2 := HNE.out; omega
      have hwt := hwb.wt
      have hen := hwb.en
      rw [hvw] at hwt hen
      have wt0 : W.cell? ⟨bw, 0, none⟩ = some (.slice ao nE cap) := by rw [cell_of_row _ _ _ _ _ _ hwt]; rfl
      obtain ⟨g, f, hao, hg, hf, c0, c1, c2⟩ := hen.at i hin
      rw [hx] at hf
      obtain rfl := Option.some.inj hf
      subst hao
      simp only at c0 c1 c2
      have b1 : ¬ ((nE : Int) ≤ (i : Int)) := by omega
      have b2 : (i : Int) < (nE : Int) := by omega
      have b3 : (0 : Int) ≤ (i : Int) := by omega
      have hq : ∀ u : World, (Op.equalIn 10000 31 (.agg #[.int .u32 (ek.x : Int), .int .i64 (ek.n : Int)]) (.agg #[.int .u32 (ek.x : Int), .int .i64 (ek.n : Int)])).run Try.prog u = .ok true u := fun u => (eqK ek ek u).trans (by simp)
      unfold maxLen at hcm
      have hmax : (i : Int) ≤ 9223372036854775806 := by omega
      have HFIN : Hid (∀ Wc, Wc.heap = (W.setCell ⟨V0.heap.size, 0, none⟩ (.int .i64 ((i : Int) + 1))).heap → Wc.os = W.os → Wc.tape = W.tape → Wc.output = W.output → KeepsN U0.heap.size W Wc ∧ U0.heap.size ≤ Wc.heap.size ∧ Below V0.heap.size V0 Wc ∧ Wc.heap[V0.heap.size]? = some (.cells #[.int .i64 ((i + 1 : Nat) : Int)] 3) ∧ Wc.heap[V0.heap.size + 1]? = some (.cells #[.bool false] 4)) := fun Wc hh h1 h2 h3 => by
        have bt : But V0.heap.size W (W.setCell ⟨V0.heap.size, 0, none⟩ (.int .i64 ((i : Int) + 1))) := But.set _ _ _ _
        have hsz : W.heap.size ≤ Wc.heap.size := by rw [hh]; exact bt.size
        have hbl : ∀ j, j < W.heap.size → j ≠ V0.heap.size → Wc.heap[j]? = W.heap[j]? := fun j hj hn => by rw [hh]; exact bt.block j hj hn
        refine ⟨⟨hsz, fun j o hj ho _ => (hbl j (Array.getElem?_eq_some_iff.1 ho).1 (by omega)).trans ho⟩, Nat.le_trans i1 hsz, ⟨h1.trans i2.os, h2.trans i2.tape, h3.trans i2.output, Nat.le_trans i2.size hsz, fun j hj => (hbl j (by omega) (by omega)).trans (i2.block j hj)⟩, ?_, (hbl _ (by omega) (by omega)).trans i4⟩
        rw [hh, set_row i3]
        rfl
      have HST : Hid (∀ Wc, Wc.heap = (W.setCell ⟨V0.heap.size + 1, 0, none⟩ (.bool true)).heap → Wc.os = W.os → Wc.tape = W.tape → Wc.output = W.output → KeepsN U0.heap.size W Wc ∧ U0.heap.size ≤ Wc.heap.size ∧ Below V0.heap.size V0 Wc ∧ (∃ i : Int, Wc.heap[V0.heap.size]? = some (.cells #[.int .i64 i] 3)) ∧ Wc.heap[V0.heap.size + 1]? = some (.cells #[.bool true] 4)) := fun Wc hh h1 h2 h3 => by
        have bt : But (V0.heap.size + 1) W (W.setCell ⟨V0.heap.size + 1, 0, none⟩ (.bool true)) := But.set _ _ _ _
        have hsz : W.heap.size ≤ Wc.heap.size := by rw [hh]; exact bt.size
        have hbl : ∀ j, j < W.heap.size → j ≠ V0.heap.size + 1 → Wc.heap[j]? = W.heap[j]? := fun j hj hn => by rw [hh]; exact bt.block j hj hn
        refine ⟨⟨hsz, fun j o hj ho _ => (hbl j (Array.getElem?_eq_some_iff.1 ho).1 (by omega)).trans ho⟩, Nat.le_trans i1 hsz, ⟨h1.trans i2.os, h2.trans i2.tape, h3.trans i2.output, Nat.le_trans i2.size hsz, fun j hj => (hbl j (by omega) (by omega)).trans (i2.block j hj)⟩, ⟨(i : Int), (hbl _ (by omega) (by omega)).trans i3⟩, ?_⟩
        rw [hh, set_row i4]
        rfl
      clear hwb i1 i2 i3 i4 j1 j2 hwt hen hf hx hs hg
      by_cases hstop : (i : Int) = a
      · have z1 : ((i : Int) == a) = true := by simp [hstop]
        clear hstop HFIN c0 c1 c2 hq
        simp only [pv, List.setIfInBounds_toArray, List.set_cons_zero, List.set_cons_succ]
        gi_wp2
        obtain ⟨s1, s2, s3, s4, s5⟩ := HST.out _ (by rfl) (by rfl) (by rfl) (by rfl)
        exact ⟨s1, rfl, s2, s3, s4, s5⟩
      · have z1 : ((i : Int) == a) = false := by simp [hstop]
        clear hstop HST
        simp only [pv, List.setIfInBounds_toArray, List.set_cons_zero, List.set_cons_succ]
        gi_wp2
        refine wpIn_region_guarded' 21 (fun i => 46 + i) (FL [some (.int .i64 (i : Int)), some (.slice (some ⟨g, 0, none⟩) nE cap), some (.int .i64 (nE : Int)), some (.bool false), some (.bool false), some (.agg #[.int .u32 (ek.x : Int), .int .i64 (ek.n : Int)]), some (.slice (some ⟨g, 0, none⟩) nE cap), some (.int .i64 (i : Int)), some (.pointer (some ⟨g, i * 3, none⟩)), some (.pointer (some ⟨g, i * 3, none⟩)), some (.agg #[.int .u32 (ek.x : Int), .int .i64 (ek.n : Int)]), some (.bool false), some (.bool false), some (.bool false), some (.int .i64 ev), some (.slice (some ⟨g, 0, none⟩) nE cap), some (.int .i64 (i : Int)), some (.pointer (some ⟨g, i * 3, none⟩)), some (.pointer (some ⟨g, i * 3 + 2, none⟩)), some (.int .i64 ev), some (.bool false)]) (fun u => u = W.drew) (fun _ u u' => u' = u) (by kernel_rfl) (by kernel_rfl) rfl (fun _ _ _ _ _ _ h _ _ => h) ?_ ?_
        · simp only [List.take_succ_cons, List.take_zero, N.stepsG]
          refine ⟨?_, ?_, ?_, ?_, ?_, ?_, ?_, ?_, ?_, ?_, ?_, ?_, ?_, ?_, ?_, ?_, ?_, ?_, ?_, ?_, ?_, trivial⟩
          · intro a' u vs hI hold hdep
            obtain rfl : u = W.drew := hI
            exact opAt_plain rfl (wpIn_val (fun _ h => by cases h) (ex_load _ ⟨V0.heap.size, 0, none⟩ (.tmp 10) _ rfl (hold 10 (fun j hj => low (by decide))) (load_in n0)) ⟨_, rfl, fun x hx => Option.some.inj (Option.some.inj hx), rfl, rfl⟩)
          · intro a' u vs hI hold hdep
            obtain rfl : u = W.drew := hI
            exact opAt_plain rfl (wpIn_val (fun _ h => by cases h) (ex_load _ ⟨bw, 0, none⟩ (.tmp 8) _ rfl (hold 8 (fun j hj => low (by decide))) (load_sE wt0)) ⟨_, rfl, fun x hx => Option.some.inj (Option.some.inj hx), rfl, rfl⟩)
          · intro a' u vs hI hold hdep
            obtain rfl : u = W.drew := hI
            have h1 := hdep ⟨1, .data⟩ (by simp) rfl (by decide)
            have e1 := h1.1.trans (h1.2 _ rfl)
            exact opAt_plain rfl (wpIn_val (fun _ h => by cases h) (ex_len 47 _ _ _ rfl e1) ⟨_, rfl, fun x hx => Option.some.inj (Option.some.inj hx), rfl, rfl⟩)
          · intro a' u vs hI hold hdep
            obtain rfl : u = W.drew := hI
            have h0 := hdep ⟨0, .data⟩ (by simp) rfl (by decide)
            have e0 := h0.1.trans (h0.2 _ rfl)
            have h2 := hdep ⟨2, .data⟩ (by simp) rfl (by decide)
            have e2 := h2.1.trans (h2.2 _ rfl)
            exact opAt_plain rfl (wpIn_val (fun _ h => by cases h) (ex_geq (.tmp 46) (.tmp 48) _ _ _ rfl e0 e2 (decide_eq_false (by omega))) ⟨_, rfl, fun x hx => Option.some.inj (Option.some.inj hx), rfl, rfl⟩)
          · intro a' u vs hI hold hdep
            obtain rfl : u = W.drew := hI
            have h3 := hdep ⟨3, .data⟩ (by simp) rfl (by decide)
            have e3 := h3.1.trans (h3.2 _ rfl)
            exact opAt_plain rfl (wpIn_val (fun _ h => by cases h) (ex_move (.tmp 49) _ rfl e3) ⟨_, rfl, fun x hx => Option.some.inj (Option.some.inj hx), rfl, rfl⟩)
          · intro a' u vs hI hold hdep
            obtain rfl : u = W.drew := hI
            have hg := hdep ⟨4, .guard⟩ (by simp) rfl (by decide)
            have eg := hg.1.trans (hg.2 _ rfl)
            exact opAt_go (j := 4) (t := 50) (b := false) rfl rfl eg (wpIn_val (fun _ h => by cases h) (ex_load _ ⟨b, 0, none⟩ (.tmp 12) _ rfl (hold 12 (fun j hj => low (by decide))) (load_pre p0 p1)) ⟨_, rfl, fun x hx => Option.some.inj (Option.some.inj hx), rfl, rfl⟩)
          · intro a' u vs hI hold hdep
            obtain rfl : u = W.drew := hI
            have hg := hdep ⟨4, .guard⟩ (by simp) rfl (by decide)
            have eg := hg.1.trans (hg.2 _ rfl)
            exact opAt_go (j := 4) (t := 50) (b := false) rfl rfl eg (wpIn_val (fun _ h => by cases h) (ex_load _ ⟨bw, 0, none⟩ (.tmp 8) _ rfl (hold 8 (fun j hj => low (by decide))) (load_sE wt0)) ⟨_, rfl, fun x hx => Option.some.inj (Option.some.inj hx), rfl, rfl⟩)
          · intro a' u vs hI hold hdep
            obtain rfl : u = W.drew := hI
            have hg := hdep ⟨4, .guard⟩ (by simp) rfl (by decide)
            have eg := hg.1.trans (hg.2 _ rfl)
            exact opAt_go (j := 4) (t := 50) (b := false) rfl rfl eg (wpIn_val (fun _ h => by cases h) (ex_load _ ⟨V0.heap.size, 0, none⟩ (.tmp 10) _ rfl (hold 10 (fun j hj => low (by decide))) (load_in n0)) ⟨_, rfl, fun x hx => Option.some.inj (Option.some.inj hx), rfl, rfl⟩)
          · intro a' u vs hI hold hdep
            obtain rfl : u = W.drew := hI
            have hg := hdep ⟨4, .guard⟩ (by simp) rfl (by decide)
            have eg := hg.1.trans (hg.2 _ rfl)
            have h6 := hdep ⟨6, .data⟩ (by simp) rfl (by decide)
            have e6 := h6.1.trans (h6.2 _ rfl)
            have h7 := hdep ⟨7, .data⟩ (by simp) rfl (by decide)
            have e7 := h7.1.trans (h7.2 _ rfl)
            exact opAt_go (j := 4) (t := 50) (b := false) rfl rfl eg (wpIn_val (fun _ h => by cases h) (ex_index _ (.tmp 52) (.tmp 53) _ _ _ rfl e6 e7 (idx_en hin _)) ⟨_, rfl, fun x hx => Option.some.inj (Option.some.inj hx), rfl, rfl⟩)
          · intro a' u vs hI hold hdep
            obtain rfl : u = W.drew := hI
            have hg := hdep ⟨4, .guard⟩ (by simp) rfl (by decide)
            have eg := hg.1.trans (hg.2 _ rfl)
            have h8 := hdep ⟨8, .data⟩ (by simp) rfl (by decide)
            have e8 := h8.1.trans (h8.2 _ rfl)
            exact opAt_go (j := 4) (t := 50) (b := false) rfl rfl eg (wpIn_val (fun _ h => by cases h) (ex_field _ _ (.tmp 54) 0 _ rfl e8 (fld_rE _).1) ⟨_, rfl, fun x hx => Option.some.inj (Option.some.inj hx), rfl, rfl⟩)
          · intro a' u vs hI hold hdep
            obtain rfl : u = W.drew := hI
            have hg := hdep ⟨4, .guard⟩ (by simp) rfl (by decide)
            have eg := hg.1.trans (hg.2 _ rfl)
            have h9 := hdep ⟨9, .data⟩ (by simp) rfl (by decide)
            have e9 := h9.1.trans (h9.2 _ rfl)
            exact opAt_go (j := 4) (t := 50) (b := false) rfl rfl eg (wpIn_val (fun _ h => by cases h) (ex_load _ ⟨g, i * 3, none⟩ (.tmp 55) _ rfl e9 (load_pre c0 c1)) ⟨_, rfl, fun x hx => Option.some.inj (Option.some.inj hx), rfl, rfl⟩)
          · intro a' u vs hI hold hdep
            obtain rfl : u = W.drew := hI
            have hg := hdep ⟨4, .guard⟩ (by simp) rfl (by decide)
            have eg := hg.1.trans (hg.2 _ rfl)
            have h5 := hdep ⟨5, .data⟩ (by simp) rfl (by decide)
            have e5 := h5.1.trans (h5.2 _ rfl)
            have h10 := hdep ⟨10, .data⟩ (by simp) rfl (by decide)
            have e10 := h10.1.trans (h10.2 _ rfl)
            exact opAt_go (j := 4) (t := 50) (b := false) rfl rfl eg (wpIn_val (fun _ h => by cases h) (ex_neqK (.tmp 51) (.tmp 56) ek rfl e5 e10) ⟨_, rfl, fun x hx => Option.some.inj (Option.some.inj hx), rfl, rfl⟩)
          · intro a' u vs hI hold hdep
            obtain rfl : u = W.drew := hI
            have h4 := hdep ⟨4, .data⟩ (by simp) rfl (by decide)
            have e4 := h4.1.trans (h4.2 _ rfl)
            have h11 := hdep ⟨11, .data⟩ (by simp) rfl (by decide)
            have e11 := h11.1.trans (h11.2 _ rfl)
            exact opAt_plain rfl (wpIn_val (fun _ h => by cases h) (ex_pickF (.tmp 50) (.tmp 57) _ rfl e4 e11) ⟨_, rfl, fun x hx => Option.some.inj (Option.some.inj hx), rfl, rfl⟩)
          · intro a' u vs hI hold hdep
            obtain rfl : u = W.drew := hI
            have h12 := hdep ⟨12, .data⟩ (by simp) rfl (by decide)
            have e12 := h12.1.trans (h12.2 _ rfl)
            exact opAt_plain rfl (wpIn_val (fun _ h => by cases h) (ex_move (.tmp 58) _ rfl e12) ⟨_, rfl, fun x hx => Option.some.inj (Option.some.inj hx), rfl, rfl⟩)
          · intro a' u vs hI hold hdep
            obtain rfl : u = W.drew := hI
            have hg := hdep ⟨13, .guard⟩ (by simp) rfl (by decide)
            have eg := hg.1.trans (hg.2 _ rfl)
            exact opAt_go (j := 13) (t := 59) (b := false) rfl rfl eg (wpIn_val (fun _ h => by cases h) (ex_move (.tmp 13) _ rfl (hold 13 (fun j hj => low (by decide)))) ⟨_, rfl, fun x hx => Option.some.inj (Option.some.inj hx), rfl, rfl⟩)
          · intro a' u vs hI hold hdep
            obtain rfl : u = W.drew := hI
            have hg := hdep ⟨13, .guard⟩ (by simp) rfl (by decide)
            have eg := hg.1.trans (hg.2 _ rfl)
            exact opAt_go (j := 13) (t := 59) (b := false) rfl rfl eg (wpIn_val (fun _ h => by cases h) (ex_load _ ⟨bw, 0, none⟩ (.tmp 8) _ rfl (hold 8 (fun j hj => low (by decide))) (load_sE wt0)) ⟨_, rfl, fun x hx => Option.some.inj (Option.some.inj hx), rfl, rfl⟩)
          · intro a' u vs hI hold hdep
            obtain rfl : u = W.drew := hI
            have hg := hdep ⟨13, .guard⟩ (by simp) rfl (by decide)
            have eg := hg.1.trans (hg.2 _ rfl)
            exact opAt_go (j := 13) (t := 59) (b := false) rfl rfl eg (wpIn_val (fun _ h => by cases h) (ex_load _ ⟨V0.heap.size, 0, none⟩ (.tmp 10) _ rfl (hold 10 (fun j hj => low (by decide))) (load_in n0)) ⟨_, rfl, fun x hx => Option.some.inj (Option.some.inj hx), rfl, rfl⟩)
          · intro a' u vs hI hold hdep
            obtain rfl : u = W.drew := hI
            have hg := hdep ⟨13, .guard⟩ (by simp) rfl (by decide)
            have eg := hg.1.trans (hg.2 _ rfl)
            have h15 := hdep ⟨15, .data⟩ (by simp) rfl (by decide)
            have e15 := h15.1.trans (h15.2 _ rfl)
            have h16 := hdep ⟨16, .data⟩ (by simp) rfl (by decide)
            have e16 := h16.1.trans (h16.2 _ rfl)
            exact opAt_go (j := 13) (t := 59) (b := false) rfl rfl eg (wpIn_val (fun _ h => by cases h) (ex_index _ (.tmp 61) (.tmp 62) _ _ _ rfl e15 e16 (idx_en hin _)) ⟨_, rfl, fun x hx => Option.some.inj (Option.some.inj hx), rfl, rfl⟩)
          · intro a' u vs hI hold hdep
            obtain rfl : u = W.drew := hI
            have hg := hdep ⟨13, .guard⟩ (by simp) rfl (by decide)
            have eg := hg.1.trans (hg.2 _ rfl)
            have h17 := hdep ⟨17, .data⟩ (by simp) rfl (by decide)
            have e17 := h17.1.trans (h17.2 _ rfl)
            exact opAt_go (j := 13) (t := 59) (b := false) rfl rfl eg (wpIn_val (fun _ h => by cases h) (ex_field _ _ (.tmp 63) 1 _ rfl e17 (fld_rE _).2) ⟨_, rfl, fun x hx => Option.some.inj (Option.some.inj hx), rfl, rfl⟩)
          · intro a' u vs hI hold hdep
            obtain rfl : u = W.drew := hI
            have hg := hdep ⟨13, .guard⟩ (by simp) rfl (by decide)
            have eg := hg.1.trans (hg.2 _ rfl)
            have h18 := hdep ⟨18, .data⟩ (by simp) rfl (by decide)
            have e18 := h18.1.trans (h18.2 _ rfl)
            exact opAt_go (j := 13) (t := 59) (b := false) rfl rfl eg (wpIn_val (fun _ h => by cases h) (ex_load _ ⟨g, i * 3 + 2, none⟩ (.tmp 64) _ rfl e18 (load_in c2)) ⟨_, rfl, fun x hx => Option.some.inj (Option.some.inj hx), rfl, rfl⟩)
          · intro a' u vs hI hold hdep
            obtain rfl : u = W.drew := hI
            have hg := hdep ⟨13, .guard⟩ (by simp) rfl (by decide)
            have eg := hg.1.trans (hg.2 _ rfl)
            have h14 := hdep ⟨14, .data⟩ (by simp) rfl (by decide)
            have e14 := h14.1.trans (h14.2 _ rfl)
            have h19 := hdep ⟨19, .data⟩ (by simp) rfl (by decide)
            have e19 := h19.1.trans (h19.2 _ rfl)
            exact opAt_go (j := 13) (t := 59) (b := false) rfl rfl eg (wpIn_val (fun _ h => by cases h) (ex_neqI (.tmp 60) (.tmp 65) _ rfl e14 e19) ⟨_, rfl, fun x hx => Option.some.inj (Option.some.inj hx), rfl, rfl⟩)
        intro vs V2 hV2 hF
        subst hV2
        have f0 := hF 0 (by decide) _ rfl
        have f1 := hF 1 (by decide) _ rfl
        have f2 := hF 2 (by decide) _ rfl
        have f3 := hF 3 (by decide) _ rfl
        have f4 := hF 4 (by decide) _ rfl
        have f5 := hF 5 (by decide) _ rfl
        have f6 := hF 6 (by decide) _ rfl
        have f7 := hF 7 (by decide) _ rfl
        have f8 := hF 8 (by decide) _ rfl
        have f9 := hF 9 (by decide) _ rfl
        have f10 := hF 10 (by decide) _ rfl
        have f11 := hF 11 (by decide) _ rfl
        have f12 := hF 12 (by decide) _ rfl
        have f13 := hF 13 (by decide) _ rfl
        have f14 := hF 14 (by decide) _ rfl
        have f15 := hF 15 (by decide) _ rfl
        have f16 := hF 16 (by decide) _ rfl
        have f17 := hF 17 (by decide) _ rfl
        have f18 := hF 18 (by decide) _ rfl
        have f19 := hF 19 (by decide) _ rfl
        have f20 := hF 20 (by decide) _ rfl
        simp only [List.drop_succ_cons, List.drop_zero, puts, List.range, List.range.loop, List.foldr, Nat.reduceAdd, if_true, f0, f1, f2, f3, f4, f5, f6, f7, f8, f9, f10, f11, f12, f13, f14, f15, f16, f17, f18, f19, f20, Act.put, List.setIfInBounds_toArray, List.set_cons_zero, List.set_cons_succ]
        clear hF f0 f1 f2 f3 f4 f5 f6 f7 f8 f9 f10 f11 f12 f13 f14 f15 f16 f17 f18 f19 f20
        gi_wp2
        exact HFIN.out _ (by rfl) (by rfl) (by rfl) (by rfl)
    case done0 =>
      rintro D0 W hD ⟨i1, i2, i3, i4⟩ hK
      have hwb := HKV0.out.below i2
      have n0 : W.cell? ⟨V0.heap.size, 0, none⟩ = some (.int .i64 ((entsIn (ents m.tr) x y).length : Int)) := by rw [cell_of_row _ _ _ _ _ _ i3]; rfl
      have l0 : W.cell? ⟨V0.heap.size + 1, 0, none⟩ = some (.bool false) := by rw [cell_of_row _ _ _ _ _ _ i4]; rfl
      have r0 : W.cell? ⟨rbx0, 0, none⟩ = some (.int .i64 0) := by rw [cell_of_row _ _ _ _ _ _ (below_keeps i2 RR0.out (Array.getElem?_eq_some_iff.1 RR0.out).1)]; rfl
      obtain ⟨ao, nE, cap, hvw, HNE, hnc, hcm⟩ := hwb.en.shape
      have hwt := hwb.wt
      rw [hvw] at hwt
      have wt0 : W.cell? ⟨bw, 0, none⟩ = some (.slice ao nE cap) := by rw [cell_of_row _ _ _ _ _ _ hwt]; rfl
      rw [← HNE.out] at n0
      obtain ⟨Z0, HZ0⟩ : ∃ Z0, Hid (Z0 = W.alloc (.cells #[.int .i64 1] 3)) := ⟨_, rfl⟩
      have hbZ0 : Below W.heap.size W Z0 := by rw [HZ0.out]; exact (Below.refl _ _).alloc (Nat.le_refl _) _
      have HKZ0 := hid (hwb.below hbZ0)
      have RR1 : Hid (Z0.heap[W.heap.size]? = some (.cells #[.int .i64 1] 3)) := by rw [HZ0.out]; exact heap_alloc_new W _
      have HD0Z0 : Hid (Z0.heap[D0]? = some (.deferred (some []))) := below_keeps hbZ0 hK (Array.getElem?_eq_some_iff.1 hK).1
      have HDW0 := hid hD
      have HSW0 : Hid (w.heap.size + 2 ≤ W.heap.size) := by have h1 := (Array.getElem?_eq_some_iff.1 hwb.rs).1; unfold Hid; omega
      have HDS0 : Hid (w.heap.size + 2 ≤ D0) := by have h1 := HSZ0.out; have h2 := HSU0.out; unfold Hid; omega
      obtain ⟨rbx1, Hrbx1⟩ : ∃ q, Hid (q = W.heap.size) := ⟨_, rfl⟩
      rw [← Hrbx1.out] at RR1
      clear hwb hwt i1 i2 i3 i4 hK hD hbZ0 hvw
      go_wp2_with fail
      rw [← HZ0.out, ← Hrbx1.out]
      rw [rounds_succ]
      have q0 : Z0.cell? ⟨rbx1, 0, none⟩ = some (.int .i64 1) := by rw [cell_of_row _ _ _ _ _ _ RR1.out]; rfl
      obtain ⟨U1, HU1⟩ : ∃ U1, Hid (U1 = (Z0.alloc (.cells #[.int .i64 0] 3)).alloc (.cells #[.bool false] 4)) := ⟨_, rfl⟩
      have HSU1 : Hid (U1.heap.size = Z0.heap.size + 2) := by unfold Hid; rw [HU1.out]; simp
      have HBU1 : Hid (Below Z0.heap.size Z0 U1) := by rw [HU1.out]; exact ((Below.refl _ _).alloc (Nat.le_refl _) _).alloc (by simp) _
      have RNU1 : Hid (U1.heap[Z0.heap.size]? = some (.cells #[.int .i64 ((0 : Nat) : Int)] 3)) := by
        unfold Hid; rw [HU1.out, Below.heap_alloc _ _ _ (by simp)]; exact heap_alloc_new Z0 _
      have RLU1 : Hid (U1.heap[Z0.heap.size + 1]? = some (.cells #[.bool false] 4)) := by
        have h := heap_alloc_new (Z0.alloc (.cells #[.int .i64 0] 3)) (.cells #[.bool false] 4)
        rw [World.size_alloc] at h
        unfold Hid; rw [HU1.out]; exact h
      go_upto_region 13 with fail
      rw [← HU1.out]
      go_wp2_with fail
      refine wpIn_wide.1 (wpIn_givesU (β := Nat) (n := 9) (F := Fence.wide) rfl (by omega) (gf := 41) (lb := #[.pointer (some ⟨pbx, 0, none⟩), .pointer (some ⟨tbx, 0, none⟩)]) rfl trivial (enters_of Try.func41 (by kernel_rfl) rfl)
        (seq_gives 8 (by omega) (fun b => b = tb) pbx tbx tb x y m HX.out HWF.out HNM.out) (fun _ => rfl)
        (fun i W => U1.heap.size ≤ W.heap.size ∧ Below Z0.heap.size Z0 W ∧ W.heap[Z0.heap.size]? = some (.cells #[.int .i64 (i : Int)] 3) ∧ W.heap[Z0.heap.size + 1]? = some (.cells #[.bool false] 4))
        (fun c W => False) ?hI1 ?hIx1 ?hF1 ?h01
        (fun e b tt => (((tt.setIfInBounds 36 (pv e.1)).setIfInBounds 37 (.int .i64 e.2)).setIfInBounds 12 (.pointer (some ⟨b, 0, none⟩))).setIfInBounds 13 (.int .i64 e.2)) (fun e b W => U1.heap.size ≤ b ∧ W.heap[b]? = some (.cells #[.int .u32 (e.1.x : Int), .int .i64 (e.1.n : Int)] 31)) ?hAy1 ?assign1 ?body1 ?done1 ?stop1)
      case hI1 =>
        refine ownN_below (fun i W hi => hi.1) ?_
        rintro i W W' ⟨i1, i2, i3, i4⟩ hb
        have hs := HSU1.out
        exact ⟨Nat.le_trans i1 hb.size, i2.trans (hb.mono (by omega)), below_keeps hb i3 (by omega), below_keeps hb i4 (by omega)⟩
      case hIx1 =>
        rintro c W W' row h hg hr
        exact h.elim
      case hF1 =>
        rintro i W ⟨i1, i2, i3, i4⟩
        exact HKZ0.out.sq.below i2
      case h01 => exact ⟨Nat.le_refl _, HBU1.out, RNU1.out, RLU1.out⟩
      case hAy1 =>
        rintro e b _ W W' row ⟨h1, h2⟩ hg hr
        refine ⟨h1, (hg.block _ (Array.getElem?_eq_some_iff.1 h2).1 (fun he => ?_)).trans h2⟩
        obtain ⟨_, o, ho, hm⟩ := hr b he.symm
        rw [h2] at ho
        cases ho
        rcases hm with hm | ⟨cs, hm⟩ | ⟨cs, hm⟩
        · cases hm
        · injection hm with _ hm; exact absurd hm (by decide)
        · injection hm with _ hm; exact absurd hm (by decide)
      case assign1 =>
        intro l i e W K hi hx hK
        obtain ⟨W2, HW2⟩ : ∃ W2, Hid (W2 = W.alloc (.cells #[.int .u32 (e.1.x : Int), .int .i64 (e.1.n : Int)] 31)) := ⟨_, rfl⟩
        have hbW : Below W.heap.size W W2 := by rw [HW2.out]; exact (Below.refl _ _).alloc (Nat.le_refl _) _
        have hrW : W2.heap[W.heap.size]? = some (.cells #[.int .u32 (e.1.x : Int), .int .i64 (e.1.n : Int)] 31) := by rw [HW2.out]; exact heap_alloc_new W _
        obtain ⟨i1, i2, i3, i4⟩ := hi
        have hs := HSU1.out
        have HK := hK W.heap.size W2 (KeepsN.of_below hbW) ⟨Nat.le_trans i1 hbW.size, i2.trans (hbW.mono i2.size), below_keeps hbW i3 (by omega), below_keeps hbW i4 (by omega)⟩ ⟨i1, hrW⟩
        unfold pv at HK ⊢
        simp only [List.setIfInBounds_toArray, List.set_cons_zero, List.set_cons_succ] at HK ⊢
        clear hK i1 i2 i3 i4 hx hbW hrW
        gi_wp2
        rw [← HW2.out]
        exact HK
      case body1 =>
        rintro l i e b W hl _ ⟨i1, i2, i3, i4⟩ ⟨j1, j2⟩ hx
        have hwb := HKZ0.out.below i2
        have hs := HSU1.out
        obtain ⟨ek, ev⟩ := e
        simp only at j2
        have p0 : W.cell? ⟨b, 0, none⟩ = some (.int .u32 (ek.x : Int)) := by rw [cell_of_row _ _ _ _ _ _ j2]; rfl
        have p1 : W.cell? ⟨b, 1, none⟩ = some (.int .i64 (ek.n : Int)) := by rw [cell_of_row _ _ _ _ _ _ j2]; rfl
        have n0 : W.cell? ⟨Z0.heap.size, 0, none⟩ = some (.int .i64 (i : Int)) := by rw [cell_of_row _ _ _ _ _ _ i3]; rfl
        have nf : W.frozen? ⟨Z0.heap.size, 0, none⟩ = false := frozen_of_row _ _ _ _ _ i3
        have l0 : W.cell? ⟨Z0.heap.size + 1, 0, none⟩ = some (.bool false) := by rw [cell_of_row _ _ _ _ _ _ i4]; rfl
        have lf : W.frozen? ⟨Z0.heap.size + 1, 0, none⟩ = false := frozen_of_row _ _ _ _ _ i4
        have r0 : W.cell? ⟨rbx1, 0, none⟩ = some (.int .i64 1) := by rw [cell_of_row _ _ _ _ _ _ (below_keeps i2 RR1.out (Array.getElem?_eq_some_iff.1 RR1.out).1)]; rfl
        have o5 : W.cell? ⟨w.heap.size, 5, none⟩ = some (.int .i64 a) := by rw [cell_of_row _ _ _ _ _ _ hwb.ob]; rfl
        obtain ⟨ao, nE, cap, hvw, HNE, hnc, hcm⟩ := hwb.en.shape
        have hin : i < nE := by have h1 := (List.getElem?_eq_some_iff.1 hx).1; have h2 := HNE.out; omega
        have hwt := hwb.wt
        have hen := hwb.en
        rw [hvw] at hwt hen
        have wt0 : W.cell? ⟨bw, 0, none⟩ = some (.slice ao nE cap) := by rw [cell_of_row _ _ _ _ _ _ hwt]; rfl
        obtain ⟨g, f, hao, hg, hf, c0, c1, c2⟩ := hen.at i hin
        rw [hx] at hf
        obtain rfl := Option.some.inj hf
        subst hao
        simp only at c0 c1 c2
        have b1 : ¬ ((nE : Int) ≤ (i : Int)) := by omega
        have b2 : (i : Int) < (nE : Int) := by omega
        have b3 : (0 : Int) ≤ (i : Int) := by omega
        have hq : ∀ u : World, (Op.equalIn 10000 31 (.agg #[.int .u32 (ek.x : Int), .int .i64 (ek.n : Int)]) (.agg #[.int .u32 (ek.x : Int), .int .i64 (ek.n : Int)])).run Try.prog u = .ok true u := fun u => (eqK ek ek u).trans (by simp)
        unfold maxLen at hcm
        have hmax : (i : Int) ≤ 9223372036854775806 := by omega
        have HFIN : Hid (∀ Wc, Wc.heap = (W.setCell ⟨Z0.heap.size, 0, none⟩ (.int .i64 ((i : Int) + 1))).heap → Wc.os = W.os → Wc.tape = W.tape → Wc.output = W.output → KeepsN U1.heap.size W Wc ∧ U1.heap.size ≤ Wc.heap.size ∧ Below Z0.heap.size Z0 Wc ∧ Wc.heap[Z0.heap.size]? = some (.cells #[.int .i64 ((i + 1 : Nat) : Int)] 3) ∧ Wc.heap[Z0.heap.size + 1]? = some (.cells #[.bool false] 4)) := fun Wc hh h1 h2 h3 => by
          have bt : But Z0.heap.size W (W.setCell ⟨Z0.heap.size, 0, none⟩ (.int .i64 ((i : Int) + 1))) := But.set _ _ _ _
          have hsz : W.heap.size ≤ Wc.heap.size := by rw [hh]; exact bt.size
          have hbl : ∀ j, j < W.heap.size → j ≠ Z0.heap.size → Wc.heap[j]? = W.heap[j]? := fun j hj hn => by rw [hh]; exact bt.block j hj hn
          refine ⟨⟨hsz, fun j o hj ho _ => (hbl j (Array.getElem?_eq_some_iff.1 ho).1 (by omega)).trans ho⟩, Nat.le_trans i1 hsz, ⟨h1.trans i2.os, h2.trans i2.tape, h3.trans i2.output, Nat.le_trans i2.size hsz, fun j hj => (hbl j (by omega) (by omega)).trans (i2.block j hj)⟩, ?_, (hbl _ (by omega) (by omega)).trans i4⟩
          rw [hh, set_row i3]
          rfl
        clear hwb i1 i2 i3 i4 j1 j2 hwt hen hf hx hs hg
        simp only [pv, List.setIfInBounds_toArray, List.set_cons_zero, List.set_cons_succ]
        gi_wp2
        refine wpIn_region_guarded' 21 (fun i => 46 + i) (FL [some (.int .i64 (i : Int)), some (.slice (some ⟨g, 0, none⟩) nE cap), some (.int .i64 (nE : Int)), some (.bool false), some (.bool false), some (.agg #[.int .u32 (ek.x : Int), .int .i64 (ek.n : Int)]), some (.slice (some ⟨g, 0, none⟩) nE cap), some (.int .i64 (i : Int)), some (.pointer (some ⟨g, i * 3, none⟩)), some (.pointer (some ⟨g, i * 3, none⟩)), some (.agg #[.int .u32 (ek.x : Int), .int .i64 (ek.n : Int)]), some (.bool false), some (.bool false), some (.bool false), some (.int .i64 ev), some (.slice (some ⟨g, 0, none⟩) nE cap), some (.int .i64 (i : Int)), some (.pointer (some ⟨g, i * 3, none⟩)), some (.pointer (some ⟨g, i * 3 + 2, none⟩)), some (.int .i64 ev), some (.bool false)]) (fun u => u = W.drew) (fun _ u u' => u' = u) (by kernel_rfl) (by kernel_rfl) rfl (fun _ _ _ _ _ _ h _ _ => h) ?_ ?_
        · simp only [List.take_succ_cons, List.take_zero, N.stepsG]
          refine ⟨?_, ?_, ?_, ?_, ?_, ?_, ?_, ?_, ?_, ?_, ?_, ?_, ?_, ?_, ?_, ?_, ?_, ?_, ?_, ?_, ?_, trivial⟩
          · intro a' u vs hI hold hdep
            obtain rfl : u = W.drew := hI
            exact opAt_plain rfl (wpIn_val (fun _ h => by cases h) (ex_load _ ⟨Z0.heap.size, 0, none⟩ (.tmp 10) _ rfl (hold 10 (fun j hj => low (by decide))) (load_in n0)) ⟨_, rfl, fun x hx => Option.some.inj (Option.some.inj hx), rfl, rfl⟩)
          · intro a' u vs hI hold hdep
            obtain rfl : u = W.drew := hI
            exact opAt_plain rfl (wpIn_val (fun _ h => by cases h) (ex_load _ ⟨bw, 0, none⟩ (.tmp 8) _ rfl (hold 8 (fun j hj => low (by decide))) (load_sE wt0)) ⟨_, rfl, fun x hx => Option.some.inj (Option.some.inj hx), rfl, rfl⟩)
          · intro a' u vs hI hold hdep
            obtain rfl : u = W.drew := hI
            have h1 := hdep ⟨1, .data⟩ (by simp) rfl (by decide)
            have e1 := h1.1.trans (h1.2 _ rfl)
            exact opAt_plain rfl (wpIn_val (fun _ h => by cases h) (ex_len 47 _ _ _ rfl e1) ⟨_, rfl, fun x hx => Option.some.inj (Option.some.inj hx), rfl, rfl⟩)
          · intro a' u vs hI hold hdep
            obtain rfl : u = W.drew := hI
            have h0 := hdep ⟨0, .data⟩ (by simp) rfl (by decide)
            have e0 := h0.1.trans (h0.2 _ rfl)
            have h2 := hdep ⟨2, .data⟩ (by simp) rfl (by decide)
            have e2 := h2.1.trans (h2.2 _ rfl)
            exact opAt_plain rfl (wpIn_val (fun _ h => by cases h) (ex_geq (.tmp 46) (.tmp 48) _ _ _ rfl e0 e2 (decide_eq_false (by omega))) ⟨_, rfl, fun x hx => Option.some.inj (Option.some.inj hx), rfl, rfl⟩)
          · intro a' u vs hI hold hdep
            obtain rfl : u = W.drew := hI
            have h3 := hdep ⟨3, .data⟩ (by simp) rfl (by decide)
            have e3 := h3.1.trans (h3.2 _ rfl)
            exact opAt_plain rfl (wpIn_val (fun _ h => by cases h) (ex_move (.tmp 49) _ rfl e3) ⟨_, rfl, fun x hx => Option.some.inj (Option.some.inj hx), rfl, rfl⟩)
          · intro a' u vs hI hold hdep
            obtain rfl : u = W.drew := hI
            have hg := hdep ⟨4, .guard⟩ (by simp) rfl (by decide)
            have eg := hg.1.trans (hg.2 _ rfl)
            exact opAt_go (j := 4) (t := 50) (b := false) rfl rfl eg (wpIn_val (fun _ h => by cases h) (ex_load _ ⟨b, 0, none⟩ (.tmp 12) _ rfl (hold 12 (fun j hj => low (by decide))) (load_pre p0 p1)) ⟨_, rfl, fun x hx => Option.some.inj (Option.some.inj hx), rfl, rfl⟩)
          · intro a' u vs hI hold hdep
            obtain rfl : u = W.drew := hI
            have hg := hdep ⟨4, .guard⟩ (by simp) rfl (by decide)
            have eg := hg.1.trans (hg.2 _ rfl)
            exact opAt_go (j := 4) (t := 50) (b := false) rfl rfl eg (wpIn_val (fun _ h => by cases h) (ex_load _ ⟨bw, 0, none⟩ (.tmp 8) _ rfl (hold 8 (fun j hj => low (by decide))) (load_sE wt0)) ⟨_, rfl, fun x hx => Option.some.inj (Option.some.inj hx), rfl, rfl⟩)
          · intro a' u vs hI hold hdep
            obtain rfl : u = W.drew := hI
            have hg := hdep ⟨4, .guard⟩ (by simp) rfl (by decide)
            have eg := hg.1.trans (hg.2 _ rfl)
            exact opAt_go (j := 4) (t := 50) (b := false) rfl rfl eg (wpIn_val (fun _ h => by cases h) (ex_load _ ⟨Z0.heap.size, 0, none⟩ (.tmp 10) _ rfl (hold 10 (fun j hj => low (by decide))) (load_in n0)) ⟨_, rfl, fun x hx => Option.some.inj (Option.some.inj hx), rfl, rfl⟩)
          · intro a' u vs hI hold hdep
            obtain rfl : u = W.drew := hI
            have hg := hdep ⟨4, .guard⟩ (by simp) rfl (by decide)
            have eg := hg.1.trans (hg.2 _ rfl)
            have h6 := hdep ⟨6, .data⟩ (by simp) rfl (by decide)
            have e6 := h6.1.trans (h6.2 _ rfl)
            have h7 := hdep ⟨7, .data⟩ (by simp) rfl (by decide)
            have e7 := h7.1.trans (h7.2 _ rfl)
            exact opAt_go (j := 4) (t := 50) (b := false) rfl rfl eg (wpIn_val (fun _ h => by cases h) (ex_index _ (.tmp 52) (.tmp 53) _ _ _ rfl e6 e7 (idx_en hin _)) ⟨_, rfl, fun x hx => Option.some.inj (Option.some.inj hx), rfl, rfl⟩)
          · intro a' u vs hI hold hdep
            obtain rfl : u = W.drew := hI
            have hg := hdep ⟨4, .guard⟩ (by simp) rfl (by decide)
            have eg := hg.1.trans (hg.2 _ rfl)
            have h8 := hdep ⟨8, .data⟩ (by simp) rfl (by decide)
            have e8 := h8.1.trans (h8.2 _ rfl)
            exact opAt_go (j := 4) (t := 50) (b := false) rfl rfl eg (wpIn_val (fun _ h => by cases h) (ex_field _ _ (.tmp 54) 0 _ rfl e8 (fld_rE _).1) ⟨_, rfl, fun x hx => Option.some.inj (Option.some.inj hx), rfl, rfl⟩)
          · intro a' u vs hI hold hdep
            obtain rfl : u = W.drew := hI
            have hg := hdep ⟨4, .guard⟩ (by simp) rfl (by decide)
            have eg := hg.1.trans (hg.2 _ rfl)
            have h9 := hdep ⟨9, .data⟩ (by simp) rfl (by decide)
            have e9 := h9.1.trans (h9.2 _ rfl)
            exact opAt_go (j := 4) (t := 50) (b := false) rfl rfl eg (wpIn_val (fun _ h => by cases h) (ex_load _ ⟨g, i * 3, none⟩ (.tmp 55) _ rfl e9 (load_pre c0 c1)) ⟨_, rfl, fun x hx => Option.some.inj (Option.some.inj hx), rfl, rfl⟩)
          · intro a' u vs hI hold hdep
            obtain rfl : u = W.drew := hI
            have hg := hdep ⟨4, .guard⟩ (by simp) rfl (by decide)
            have eg := hg.1.trans (hg.2 _ rfl)
            have h5 := hdep ⟨5, .data⟩ (by simp) rfl (by decide)
            have e5 := h5.1.trans (h5.2 _ rfl)
            have h10 := hdep ⟨10, .data⟩ (by simp) rfl (by decide)
            have e10 := h10.1.trans (h10.2 _ rfl)
            exact opAt_go (j := 4) (t := 50) (b := false) rfl rfl eg (wpIn_val (fun _ h => by cases h) (ex_neqK (.tmp 51) (.tmp 56) ek rfl e5 e10) ⟨_, rfl, fun x hx => Option.some.inj (Option.some.inj hx), rfl, rfl⟩)
          · intro a' u vs hI hold hdep
            obtain rfl : u = W.drew := hI
            have h4 := hdep ⟨4, .data⟩ (by simp) rfl (by decide)
            have e4 := h4.1.trans (h4.2 _ rfl)
            have h11 := hdep ⟨11, .data⟩ (by simp) rfl (by decide)
            have e11 := h11.1.trans (h11.2 _ rfl)
            exact opAt_plain rfl (wpIn_val (fun _ h => by cases h) (ex_pickF (.tmp 50) (.tmp 57) _ rfl e4 e11) ⟨_, rfl, fun x hx => Option.some.inj (Option.some.inj hx), rfl, rfl⟩)
          · intro a' u vs hI hold hdep
            obtain rfl : u = W.drew := hI
            have h12 := hdep ⟨12, .data⟩ (by simp) rfl (by decide)
            have e12 := h12.1.trans (h12.2 _ rfl)
            exact opAt_plain rfl (wpIn_val (fun _ h => by cases h) (ex_move (.tmp 58) _ rfl e12) ⟨_, rfl, fun x hx => Option.some.inj (Option.some.inj hx), rfl, rfl⟩)
          · intro a' u vs hI hold hdep
            obtain rfl : u = W.drew := hI
            have hg := hdep ⟨13, .guard⟩ (by simp) rfl (by decide)
            have eg := hg.1.trans (hg.2 _ rfl)
            exact opAt_go (j := 13) (t := 59) (b := false) rfl rfl eg (wpIn_val (fun _ h => by cases h) (ex_move (.tmp 13) _ rfl (hold 13 (fun j hj => low (by decide)))) ⟨_, rfl, fun x hx => Option.some.inj (Option.some.inj hx), rfl, rfl⟩)
          · intro a' u vs hI hold hdep
            obtain rfl : u = W.drew := hI
            have hg := hdep ⟨13, .guard⟩ (by simp) rfl (by decide)
            have eg := hg.1.trans (hg.2 _ rfl)
            exact opAt_go (j := 13) (t := 59) (b := false) rfl rfl eg (wpIn_val (fun _ h => by cases h) (ex_load _ ⟨bw, 0, none⟩ (.tmp 8) _ rfl (hold 8 (fun j hj => low (by decide))) (load_sE wt0)) ⟨_, rfl, fun x hx => Option.some.inj (Option.some.inj hx), rfl, rfl⟩)
          · intro a' u vs hI hold hdep
            obtain rfl : u = W.drew := hI
            have hg := hdep ⟨13, .guard⟩ (by simp) rfl (by decide)
            have eg := hg.1.trans (hg.2 _ rfl)
            exact opAt_go (j := 13) (t := 59) (b := false) rfl rfl eg (wpIn_val (fun _ h => by cases h) (ex_load _ ⟨Z0.heap.size, 0, none⟩ (.tmp 10) _ rfl (hold 10 (fun j hj => low (by decide))) (load_in n0)) ⟨_, rfl, fun x hx => Option.some.inj (Option.some.inj hx), rfl, rfl⟩)
          · intro a' u vs hI hold hdep
            obtain rfl : u = W.drew := hI
            have hg := hdep ⟨13, .guard⟩ (by simp) rfl (by decide)
            have eg := hg.1.trans (hg.2 _ rfl)
            have h15 := hdep ⟨15, .data⟩ (by simp) rfl (by decide)
            have e15 := h15.1.trans (h15.2 _ rfl)
            have h16 := hdep ⟨16, .data⟩ (by simp) rfl (by decide)
            have e16 := h16.1.trans (h16.2 _ rfl)
            exact opAt_go (j := 13) (t := 59) (b := false) rfl rfl eg (wpIn_val (fun _ h => by cases h) (ex_index _ (.tmp 61) (.tmp 62) _ _ _ rfl e15 e16 (idx_en hin _)) ⟨_, rfl, fun x hx => Option.some.inj (Option.some.inj hx), rfl, rfl⟩)
          · intro a' u vs hI hold hdep
            obtain rfl : u = W.drew := hI
            have hg := hdep ⟨13, .guard⟩ (by simp) rfl (by decide)
            have eg := hg.1.trans (hg.2 _ rfl)
            have h17 := hdep ⟨17, .data⟩ (by simp) rfl (by decide)
            have e17 := h17.1.trans (h17.2 _ rfl)
            exact opAt_go (j := 13) (t := 59) (b := false) rfl rfl eg (wpIn_val (fun _ h => by cases h) (ex_field _ _ (.tmp 63) 1 _ rfl e17 (fld_rE _).2) ⟨_, rfl, fun x hx => Option.some.inj (Option.some.inj hx), rfl, rfl⟩)
          · intro a' u vs hI hold hdep
            obtain rfl : u = W.drew := hI
            have hg := hdep ⟨13, .guard⟩ (by simp) rfl (by decide)
            have eg := hg.1.trans (hg.2 _ rfl)
            have h18 := hdep ⟨18, .data⟩ (by simp) rfl (by decide)
            have e18 := h18.1.trans (h18.2 _ rfl)
            exact opAt_go (j := 13) (t := 59) (b := false) rfl rfl eg (wpIn_val (fun _ h => by cases h) (ex_load _ ⟨g, i * 3 + 2, none⟩ (.tmp 64) _ rfl e18 (load_in c2)) ⟨_, rfl, fun x hx => Option.some.inj (Option.some.inj hx), rfl, rfl⟩)
          · intro a' u vs hI hold hdep
            obtain rfl : u = W.drew := hI
            have hg := hdep ⟨13, .guard⟩ (by simp) rfl (by decide)
            have eg := hg.1.trans (hg.2 _ rfl)
            have h14 := hdep ⟨14, .data⟩ (by simp) rfl (by decide)
            have e14 := h14.1.trans (h14.2 _ rfl)
            have h19 := hdep ⟨19, .data⟩ (by simp) rfl (by decide)
            have e19 := h19.1.trans (h19.2 _ rfl)
            exact opAt_go (j := 13) (t := 59) (b := false) rfl rfl eg (wpIn_val (fun _ h => by cases h) (ex_neqI (.tmp 60) (.tmp 65) _ rfl e14 e19) ⟨_, rfl, fun x hx => Option.some.inj (Option.some.inj hx), rfl, rfl⟩)
        intro vs V2 hV2 hF
        subst hV2
        have f0 := hF 0 (by decide) _ rfl
        have f1 := hF 1 (by decide) _ rfl
        have f2 := hF 2 (by decide) _ rfl
        have f3 := hF 3 (by decide) _ rfl
        have f4 := hF 4 (by decide) _ rfl
        have f5 := hF 5 (by decide) _ rfl
        have f6 := hF 6 (by decide) _ rfl
        have f7 := hF 7 (by decide) _ rfl
        have f8 := hF 8 (by decide) _ rfl
        have f9 := hF 9 (by decide) _ rfl
        have f10 := hF 10 (by decide) _ rfl
        have f11 := hF 11 (by decide) _ rfl
        have f12 := hF 12 (by decide) _ rfl
        have f13 := hF 13 (by decide) _ rfl
        have f14 := hF 14 (by decide) _ rfl
        have f15 := hF 15 (by decide) _ rfl
        have f16 := hF 16 (by decide) _ rfl
        have f17 := hF 17 (by decide) _ rfl
        have f18 := hF 18 (by decide) _ rfl
        have f19 := hF 19 (by decide) _ rfl
        have f20 := hF 20 (by decide) _ rfl
        simp only [List.drop_succ_cons, List.drop_zero, puts, List.range, List.range.loop, List.foldr, Nat.reduceAdd, if_true, f0, f1, f2, f3, f4, f5, f6, f7, f8, f9, f10, f11, f12, f13, f14, f15, f16, f17, f18, f19, f20, Act.put, List.setIfInBounds_toArray, List.set_cons_zero, List.set_cons_succ]
        clear hF f0 f1 f2 f3 f4 f5 f6 f7 f8 f9 f10 f11 f12 f13 f14 f15 f16 f17 f18 f19 f20
        gi_wp2
        exact HFIN.out _ (by rfl) (by rfl) (by rfl) (by rfl)
      case done1 =>
        rintro D1 W hD ⟨i1, i2, i3, i4⟩ hK
        have hwb := HKZ0.out.below i2
        have n0 : W.cell? ⟨Z0.heap.size, 0, none⟩ = some (.int .i64 ((entsIn (ents m.tr) x y).length : Int)) := by rw [cell_of_row _ _ _ _ _ _ i3]; rfl
        have l0 : W.cell? ⟨Z0.heap.size + 1, 0, none⟩ = some (.bool false) := by rw [cell_of_row _ _ _ _ _ _ i4]; rfl
        have r0 : W.cell? ⟨rbx1, 0, none⟩ = some (.int .i64 1) := by rw [cell_of_row _ _ _ _ _ _ (below_keeps i2 RR1.out (Array.getElem?_eq_some_iff.1 RR1.out).1)]; rfl
        obtain ⟨ao, nE, cap, hvw, HNE, hnc, hcm⟩ := hwb.en.shape
        have hwt := hwb.wt
        rw [hvw] at hwt
        have wt0 : W.cell? ⟨bw, 0, none⟩ = some (.slice ao nE cap) := by rw [cell_of_row _ _ _ _ _ _ hwt]; rfl
        rw [← HNE.out] at n0
        obtain ⟨Z1, HZ1⟩ : ∃ Z1, Hid (Z1 = W.alloc (.cells #[.int .i64 2] 3)) := ⟨_, rfl⟩
        have hbZ1 : Below W.heap.size W Z1 := by rw [HZ1.out]; exact (Below.refl _ _).alloc (Nat.le_refl _) _
        have HKZ1 := hid (hwb.below hbZ1)
        have RR2 : Hid (Z1.heap[W.heap.size]? = some (.cells #[.int .i64 2] 3)) := by rw [HZ1.out]; exact heap_alloc_new W _
        have HD1Z1 : Hid (Z1.heap[D1]? = some (.deferred (some []))) := below_keeps hbZ1 hK (Array.getElem?_eq_some_iff.1 hK).1
        have HDW1 := hid hD
        have HSW1 : Hid (w.heap.size + 2 ≤ W.heap.size) := by have h1 := (Array.getElem?_eq_some_iff.1 hwb.rs).1; unfold Hid; omega
        have HD0Z1 : Hid (Z1.heap[D0]? = some (.deferred (some []))) := by
          have h1 := (Array.getElem?_eq_some_iff.1 HD0Z0.out).1
          have h2 := below_keeps i2 HD0Z0.out h1
          exact below_keeps hbZ1 h2 (Array.getElem?_eq_some_iff.1 h2).1
        have HDS1 : Hid (w.heap.size + 2 ≤ D1) := by have h1 := (Array.getElem?_eq_some_iff.1 HKZ0.out.rs).1; have h2 := HSU1.out; unfold Hid; omega
        have HDN : Hid (D1 ≠ D0) := by have h1 := (Array.getElem?_eq_some_iff.1 HD0Z0.out).1; have h2 := HSU1.out; unfold Hid; omega
        obtain ⟨rbx2, Hrbx2⟩ : ∃ q, Hid (q = W.heap.size) := ⟨_, rfl⟩
        rw [← Hrbx2.out] at RR2
        clear hwb hwt i1 i2 i3 i4 hK hD hbZ1 hvw
        go_wp2_with fail
        rw [← HZ1.out, ← Hrbx2.out]
        have q0 : Z1.cell? ⟨rbx2, 0, none⟩ = some (.int .i64 2) := by rw [cell_of_row _ _ _ _ _ _ RR2.out]; rfl
        have hwb := HKZ1.out
        have rs0 : Z1.cell? ⟨w.heap.size + 1, 0, none⟩ = some (.bool false) := by rw [cell_of_row _ _ _ _ _ _ hwb.rs]; rfl
        have rsf : Z1.frozen? ⟨w.heap.size + 1, 0, none⟩ = false := frozen_of_row _ _ _ _ _ hwb.rs
        obtain ⟨Y2, hY2⟩ : ∃ Y2, Y2 = Z1.setCell ⟨w.heap.size + 1, 0, none⟩ (.bool true) := ⟨_, rfl⟩
        have bt : But (w.heap.size + 1) Z1 Y2 := by rw [hY2]; exact But.set _ _ _ _
        have hsz := (Array.getElem?_eq_some_iff.1 hwb.rs).1
        have RS : Hid (Y2.heap[w.heap.size + 1]? = some (.cells #[.bool true] 4)) := by rw [hY2]; exact set_row hwb.rs
        have HBY : Hid (Below w.heap.size w Y2) := bt.below hwb.bel (by omega) (by omega)
        have hd0 := HDW0.out
        have hd1 := HDW1.out
        have E0 : Hid (Y2.heap[D0]? = some (.deferred (some []))) := (bt.block _ (Array.getElem?_eq_some_iff.1 HD0Z1.out).1 (by have := HDS0.out; omega)).trans HD0Z1.out
        have E1 : Hid (Y2.heap[D1]? = some (.deferred (some []))) := (bt.block _ (Array.getElem?_eq_some_iff.1 HD1Z1.out).1 (by have := HDS1.out; omega)).trans HD1Z1.out
        have HY2 := hid hY2
        clear hwb hY2 bt hsz hd0 hd1
        rw [rounds_succ]
        go_wp2_with fail
        rw [← HY2.out]
        have hK0 := E0.out
        have hK1 := E1.out
        have hne : D1 ≠ D0 := HDN.out
        have hK0' : (Y2.putObj D1 (.deferred none)).heap[D0]? = some (.deferred (some [])) := (World.putObj_heap_other (fun e => hne e.symm)).trans hK0
        have hf1 : Below w.heap.size w (Y2.putObj D1 (.deferred none)) := HBY.out.trans (belowK_b (w := w) (Nat.le_refl _) Y2 D1 _ _ (by have := HDS1.out; omega) hK1 rfl rfl)
        have hf0 : Below w.heap.size w ((Y2.putObj D1 (.deferred none)).putObj D0 (.deferred none)) := hf1.trans (belowK_b (w := w) (Nat.le_refl _) _ D0 _ _ (by have := HDS0.out; omega) hK0' rfl rfl)
        have rz : ((Y2.putObj D1 (.deferred none)).putObj D0 (.deferred none)).heap[w.heap.size + 1]? = some (.cells #[.bool true] 4) := (World.putObj_heap_other (by have := HDS0.out; omega)).trans ((World.putObj_heap_other (by have := HDS1.out; omega)).trans RS.out)
        have g0 : ((Y2.putObj D1 (.deferred none)).putObj D0 (.deferred none)).cell? ⟨w.heap.size + 1, 0, none⟩ = some (.bool true) := by rw [cell_of_row _ _ _ _ _ _ rz]; rfl
        refine ⟨by simp, .inl ⟨_, _, rfl, run_takeDeferred hK1, by simp, .inl ⟨_, _, rfl, run_takeDeferred hK0', ?_⟩⟩⟩
        exact ⟨_, (by simp [results, Try.results48, go_sem, g0]), rfl, hf0⟩
      case stop1 =>
        rintro D c W hD h hK
        exact h.elim
    case stop0 =>
      rintro D0 c W hD ⟨rfl, i1, i2, ⟨i, i3⟩, i4⟩ hK
      refine wpIn_wide.2 ?_
      have hwb := HKV0.out.below i2
      have l0 : W.cell? ⟨V0.heap.size + 1, 0, none⟩ = some (.bool true) := by rw [cell_of_row _ _ _ _ _ _ i4]; rfl
      have r0 : W.cell? ⟨rbx0, 0, none⟩ = some (.int .i64 0) := by rw [cell_of_row _ _ _ _ _ _ (below_keeps i2 RR0.out (Array.getElem?_eq_some_iff.1 RR0.out).1)]; rfl
      obtain ⟨ao, nE, cap, hvw, HNE, hnc, hcm⟩ := hwb.en.shape
      have hwt := hwb.wt
      rw [hvw] at hwt
      have wt0 : W.cell? ⟨bw, 0, none⟩ = some (.slice ao nE cap) := by rw [cell_of_row _ _ _ _ _ _ hwt]; rfl
      obtain ⟨Z0, HZ0⟩ : ∃ Z0, Hid (Z0 = W.alloc (.cells #[.int .i64 1] 3)) := ⟨_, rfl⟩
      have hbZ0 : Below W.heap.size W Z0 := by rw [HZ0.out]; exact (Below.refl _ _).alloc (Nat.le_refl _) _
      have HKZ0 := hid (hwb.below hbZ0)
      have RR1 : Hid (Z0.heap[W.heap.size]? = some (.cells #[.int .i64 1] 3)) := by rw [HZ0.out]; exact heap_alloc_new W _
      have HD0Z0 : Hid (Z0.heap[D0]? = some (.deferred (some []))) := below_keeps hbZ0 hK (Array.getElem?_eq_some_iff.1 hK).1
      have HDW0 := hid hD
      have HSW0 : Hid (w.heap.size + 2 ≤ W.heap.size) := by have h1 := (Array.getElem?_eq_some_iff.1 hwb.rs).1; unfold Hid; omega
      have HDS0 : Hid (w.heap.size + 2 ≤ D0) := by have h1 := HSZ0.out; have h2 := HSU0.out; unfold Hid; omega
      obtain ⟨rbx1, Hrbx1⟩ : ∃ q, Hid (q = W.heap.size) := ⟨_, rfl⟩
      rw [← Hrbx1.out] at RR1
      clear hwb hwt i1 i2 i3 i4 hK hD hbZ0 hvw
      go_wp2_with fail
      rw [← HZ0.out, ← Hrbx1.out]
      rw [rounds_succ]
      have q0 : Z0.cell? ⟨rbx1, 0, none⟩ = some (.int .i64 1) := by rw [cell_of_row _ _ _ _ _ _ RR1.out]; rfl
      obtain ⟨U1, HU1⟩ : ∃ U1, Hid (U1 = (Z0.alloc (.cells #[.int .i64 0] 3)).alloc (.cells #[.bool false] 4)) := ⟨_, rfl⟩
      have HSU1 : Hid (U1.heap.size = Z0.heap.size + 2) := by unfold Hid; rw [HU1.out]; simp
      have HBU1 : Hid (Below Z0.heap.size Z0 U1) := by rw [HU1.out]; exact ((Below.refl _ _).alloc (Nat.le_refl _) _).alloc (by simp) _
      have RNU1 : Hid (U1.heap[Z0.heap.size]? = some (.cells #[.int .i64 ((0 : Nat) : Int)] 3)) := by
        unfold Hid; rw [HU1.out, Below.heap_alloc _ _ _ (by simp)]; exact heap_alloc_new Z0 _
      have RLU1 : Hid (U1.heap[Z0.heap.size + 1]? = some (.cells #[.bool false] 4)) := by
        have h := heap_alloc_new (Z0.alloc (.cells #[.int .i64 0] 3)) (.cells #[.bool false] 4)
        rw [World.size_alloc] at h
        unfold Hid; rw [HU1.out]; exact h
      go_upto_region 13 with fail
      rw [← HU1.out]
      go_wp2_with fail
      refine wpIn_wide.1 (wpIn_givesU (β := Nat) (n := 9) (F := Fence.wide) rfl (by omega) (gf := 41) (lb := #[.pointer (some ⟨pbx, 0, none⟩), .pointer (some ⟨tbx, 0, none⟩)]) rfl trivial (enters_of Try.func41 (by kernel_rfl) rfl)
        (seq_gives 8 (by omega) (fun b => b = tb) pbx tbx tb x y m HX.out HWF.out HNM.out) (fun _ => rfl)
        (fun i W => U1.heap.size ≤ W.heap.size ∧ Below Z0.heap.size Z0 W ∧ W.heap[Z0.heap.size]? = some (.cells #[.int .i64 (i : Int)] 3) ∧ W.heap[Z0.heap.size + 1]? = some (.cells #[.bool false] 4))
        (fun c W => False) ?hI1 ?hIx1 ?hF1 ?h01
        (fun e b tt => (((tt.setIfInBounds 36 (pv e.1)).setIfInBounds 37 (.int .i64 e.2)).setIfInBounds 12 (.pointer (some ⟨b, 0, none⟩))).setIfInBounds 13 (.int .i64 e.2)) (fun e b W => U1.heap.size ≤ b ∧ W.heap[b]? = some (.cells #[.int .u32 (e.1.x : Int), .int .i64 (e.1.n : Int)] 31)) ?hAy1 ?assign1 ?body1 ?done1 ?stop1)
      case hI1 =>
        refine ownN_below (fun i W hi => hi.1) ?_
        rintro i W W' ⟨i1, i2, i3, i4⟩ hb
        have hs := HSU1.out
        exact ⟨Nat.le_trans i1 hb.size, i2.trans (hb.mono (by omega)), below_keeps hb i3 (by omega), below_keeps hb i4 (by omega)⟩
      case hIx1 =>
        rintro c W W' row h hg hr
        exact h.elim
      case hF1 =>
        rintro i W ⟨i1, i2, i3, i4⟩
        exact HKZ0.out.sq.below i2
      case h01 => exact ⟨Nat.le_refl _, HBU1.out, RNU1.out, RLU1.out⟩
      case hAy1 =>
        rintro e b _ W W' row ⟨h1, h2⟩ hg hr
        refine ⟨h1, (hg.block _ (Array.getElem?_eq_some_iff.1 h2).1 (fun he => ?_)).trans h2⟩
        obtain ⟨_, o, ho, hm⟩ := hr b he.symm
        rw [h2] at ho
        cases ho
        rcases hm with hm | ⟨cs, hm⟩ | ⟨cs, hm⟩
        · cases hm
        · injection hm with _ hm; exact absurd hm (by decide)
        · injection hm with _ hm; exact absurd hm (by decide)
      case assign1 =>
        intro l i e W K hi hx hK
        obtain ⟨W2, HW2⟩ : ∃ W2, Hid (W2 = W.alloc (.cells #[.int .u32 (e.1.x : Int), .int .i64 (e.1.n : Int)] 31)) := ⟨_, rfl⟩
        have hbW : Below W.heap.size W W2 := by rw [HW2.out]; exact (Below.refl _ _).alloc (Nat.le_refl _) _
        have hrW : W2.heap[W.heap.size]? = some (.cells #[.int .u32 (e.1.x : Int), .int .i64 (e.1.n : Int)] 31) := by rw [HW2.out]; exact heap_alloc_new W _
        obtain ⟨i1, i2, i3, i4⟩ := hi
        have hs := HSU1.out
        have HK := hK W.heap.size W2 (KeepsN.of_below hbW) ⟨Nat.le_trans i1 hbW.size, i2.trans (hbW.mono i2.size), below_keeps hbW i3 (by omega), below_keeps hbW i4 (by omega)⟩ ⟨i1, hrW⟩
        unfold pv at HK ⊢
        simp only [List.setIfInBounds_toArray, List.set_cons_zero, List.set_cons_succ] at HK ⊢
        clear hK i1 i2 i3 i4 hx hbW hrW
        gi_wp2
        rw [← HW2.out]
        exact HK
      case body1 =>
        rintro l i e b W hl _ ⟨i1, i2, i3, i4⟩ ⟨j1, j2⟩ hx
        have hwb := HKZ0.out.below i2
        have hs := HSU1.out
        obtain ⟨ek, ev⟩ := e
        simp only at j2
        have p0 : W.cell? ⟨b, 0, none⟩ = some (.int .u32 (ek.x : Int)) := by rw [cell_of_row _ _ _ _ _ _ j2]; rfl
        have p1 : W.cell? ⟨b, 1, none⟩ = some (.int .i64 (ek.n : Int)) := by rw [cell_of_row _ _ _ _ _ _ j2]; rfl
        have n0 : W.cell? ⟨Z0.heap.size, 0, none⟩ = some (.int .i64 (i : Int)) := by rw [cell_of_row _ _ _ _ _ _ i3]; rfl
        have nf : W.frozen? ⟨Z0.heap.size, 0, none⟩ = false := frozen_of_row _ _ _ _ _ i3
        have l0 : W.cell? ⟨Z0.heap.size + 1, 0, none⟩ = some (.bool false) := by rw [cell_of_row _ _ _ _ _ _ i4]; rfl
        have lf : W.frozen? ⟨Z0.heap.size + 1, 0, none⟩ = false := frozen_of_row _ _ _ _ _ i4
        have r0 : W.cell? ⟨rbx1, 0, none⟩ = some (.int .i64 1) := by rw [cell_of_row _ _ _ _ _ _ (below_keeps i2 RR1.out (Array.getElem?_eq_some_iff.1 RR1.out).1)]; rfl
        have o5 : W.cell? ⟨w.heap.size, 5, none⟩ = some (.int .i64 a) := by rw [cell_of_row _ _ _ _ _ _ hwb.ob]; rfl
        obtain ⟨ao, nE, cap, hvw, HNE, hnc, hcm⟩ := hwb.en.shape
        have hin : i < nE := by have h1 := (List.getElem?_eq_some_iff.1 hx).1; have h2 := HNE.out; omega
        have hwt := hwb.wt
        have hen := hwb.en
        rw [hvw] at hwt hen
        have wt0 : W.cell? ⟨bw, 0, none⟩ = some (.slice ao nE cap) := by rw [cell_of_row _ _ _ _ _ _ hwt]; rfl
        obtain ⟨g, f, hao, hg, hf, c0, c1, c2⟩ := hen.at i hin
        rw [hx] at hf
        obtain rfl := Option.some.inj hf
        subst hao
        simp only at c0 c1 c2
        have b1 : ¬ ((nE : Int) ≤ (i : Int)) := by omega
        have b2 : (i : Int) < (nE : Int) := by omega
        have b3 : (0 : Int) ≤ (i : Int) := by omega
        have hq : ∀ u : World, (Op.equalIn 10000 31 (.agg #[.int .u32 (ek.x : Int), .int .i64 (ek.n : Int)]) (.agg #[.int .u32 (ek.x : Int), .int .i64 (ek.n : Int)])).run Try.prog u = .ok true u := fun u => (eqK ek ek u).trans (by simp)
        unfold maxLen at hcm
        have hmax : (i : Int) ≤ 9223372036854775806 := by omega
        have HFIN : Hid (∀ Wc, Wc.heap = (W.setCell ⟨Z0.heap.size, 0, none⟩ (.int .i64 ((i : Int) + 1))).heap → Wc.os = W.os → Wc.tape = W.tape → Wc.output = W.output → KeepsN U1.heap.size W Wc ∧ U1.heap.size ≤ Wc.heap.size ∧ Below Z0.heap.size Z0 Wc ∧ Wc.heap[Z0.heap.size]? = some (.cells #[.int .i64 ((i + 1 : Nat) : Int)] 3) ∧ Wc.heap[Z0.heap.size + 1]? = some (.cells #[.bool false] 4)) := fun Wc hh h1 h2 h3 => by
          have bt : But Z0.heap.size W (W.setCell ⟨Z0.heap.size, 0, none⟩ (.int .i64 ((i : Int) + 1))) := But.set _ _ _ _
          have hsz : W.heap.size ≤ Wc.heap.size := by rw [hh]; exact bt.size
          have hbl : ∀ j, j < W.heap.size → j ≠ Z0.heap.size → Wc.heap[j]? = W.heap[j]? := fun j hj hn => by rw [hh]; exact bt.block j hj hn
          refine ⟨⟨hsz, fun j o hj ho _ => (hbl j (Array.getElem?_eq_some_iff.1 ho).1 (by omega)).trans ho⟩, Nat.le_trans i1 hsz, ⟨h1.trans i2.os, h2.trans i2.tape, h3.trans i2.output, Nat.le_trans i2.size hsz, fun j hj => (hbl j (by omega) (by omega)).trans (i2.block j hj)⟩, ?_, (hbl _ (by omega) (by omega)).trans i4⟩
          rw [hh, set_row i3]
          rfl
        clear hwb i1 i2 i3 i4 j1 j2 hwt hen hf hx hs hg
        simp only [pv, List.setIfInBounds_toArray, List.set_cons_zero, List.set_cons_succ]
        gi_wp2
        refine wpIn_region_guarded' 21 (fun i => 46 + i) (FL [some (.int .i64 (i : Int)), some (.slice (some ⟨g, 0, none⟩) nE cap), some (.int .i64 (nE : Int)), some (.bool false), some (.bool false), some (.agg #[.int .u32 (ek.x : Int), .int .i64 (ek.n : Int)]), some (.slice (some ⟨g, 0, none⟩) nE cap), some (.int .i64 (i : Int)), some (.pointer (some ⟨g, i * 3, none⟩)), some (.pointer (some ⟨g, i * 3, none⟩)), some (.agg #[.int .u32 (ek.x : Int), .int .i64 (ek.n : Int)]), some (.bool false), some (.bool false), some (.bool false), some (.int .i64 ev), some (.slice (some ⟨g, 0, none⟩) nE cap), some (.int .i64 (i : Int)), some (.pointer (some ⟨g, i * 3, none⟩)), some (.pointer (some ⟨g, i * 3 + 2, none⟩)), some (.int .i64 ev), some (.bool false)]) (fun u => u = W.drew) (fun _ u u' => u' = u) (by kernel_rfl) (by kernel_rfl) rfl (fun _ _ _ _ _ _ h _ _ => h) ?_ ?_
        · simp only [List.take_succ_cons, List.take_zero, N.stepsG]
          refine ⟨?_, ?_, ?_, ?_, ?_, ?_, ?_, ?_, ?_, ?_, ?_, ?_, ?_, ?_, ?_, ?_, ?_, ?_, ?_, ?_, ?_, trivial⟩
          · intro a' u vs hI hold hdep
            obtain rfl : u = W.drew := hI
            exact opAt_plain rfl (wpIn_val (fun _ h => by cases h) (ex_load _ ⟨Z0.heap.size, 0, none⟩ (.tmp 10) _ rfl (hold 10 (fun j hj => low (by decide))) (load_in n0)) ⟨_, rfl, fun x hx => Option.some.inj (Option.some.inj hx), rfl, rfl⟩)
          · intro a' u vs hI hold hdep
            obtain rfl : u = W.drew := hI
            exact opAt_plain rfl (wpIn_val (fun _ h => by cases h) (ex_load _ ⟨bw, 0, none⟩ (.tmp 8) _ rfl (hold 8 (fun j hj => low (by decide))) (load_sE wt0)) ⟨_, rfl, fun x hx => Option.some.inj (Option.some.inj hx), rfl, rfl⟩)
          · intro a' u vs hI hold hdep
            obtain rfl : u = W.drew := hI
            have h1 := hdep ⟨1, .data⟩ (by simp) rfl (by decide)
            have e1 := h1.1.trans (h1.2 _ rfl)
            exact opAt_plain rfl (wpIn_val (fun _ h => by cases h) (ex_len 47 _ _ _ rfl e1) ⟨_, rfl, fun x hx => Option.some.inj (Option.some.inj hx), rfl, rfl⟩)
          · intro a' u vs hI hold hdep
            obtain rfl : u = W.drew := hI
            have h0 := hdep ⟨0, .data⟩ (by simp) rfl (by decide)
            have e0 := h0.1.trans (h0.2 _ rfl)
            have h2 := hdep ⟨2, .data⟩ (by simp) rfl (by decide)
            have e2 := h2.1.trans (h2.2 _ rfl)
            exact opAt_plain rfl (wpIn_val (fun _ h => by cases h) (ex_geq (.tmp 46) (.tmp 48) _ _ _ rfl e0 e2 (decide_eq_false (by omega))) ⟨_, rfl, fun x hx => Option.some.inj (Option.some.inj hx), rfl, rfl⟩)
          · intro a' u vs hI hold hdep
            obtain rfl : u = W.drew := hI
            have h3 := hdep ⟨3, .data⟩ (by simp) rfl (by decide)
            have e3 := h3.1.trans (h3.2 _ rfl)
            exact opAt_plain rfl (wpIn_val (fun _ h => by cases h) (ex_move (.tmp 49) _ rfl e3) ⟨_, rfl, fun x hx => Option.some.inj (Option.some.inj hx), rfl, rfl⟩)
          · intro a' u vs hI hold hdep
            obtain rfl : u = W.drew := hI
            have hg := hdep ⟨4, .guard⟩ (by simp) rfl (by decide)
            have eg := hg.1.trans (hg.2 _ rfl)
            exact opAt_go (j := 4) (t := 50) (b := false) rfl rfl eg (wpIn_val (fun _ h => by cases h) (ex_load _ ⟨b, 0, none⟩ (.tmp 12) _ rfl (hold 12 (fun j hj => low (by decide))) (load_pre p0 p1)) ⟨_, rfl, fun x hx => Option.some.inj (Option.some.inj hx), rfl, rfl⟩)
          · intro a' u vs hI hold hdep
            obtain rfl : u = W.drew := hI
            have hg := hdep ⟨4, .guard⟩ (by simp) rfl (by decide)
            have eg := hg.1.trans (hg.2 _ rfl)
            exact opAt_go (j := 4) (t := 50) (b := false) rfl rfl eg (wpIn_val (fun _ h => by cases h) (ex_load _ ⟨bw, 0, none⟩ (.tmp 8) _ rfl (hold 8 (fun j hj => low (by decide))) (load_sE wt0)) ⟨_, rfl, fun x hx => Option.some.inj (Option.some.inj hx), rfl, rfl⟩)
          · intro a' u vs hI hold hdep
            obtain rfl : u = W.drew := hI
            have hg := hdep ⟨4, .guard⟩ (by simp) rfl (by decide)
            have eg := hg.1.trans (hg.2 _ rfl)
            exact opAt_go (j := 4) (t := 50) (b := false) rfl rfl eg (wpIn_val (fun _ h => by cases h) (ex_load _ ⟨Z0.heap.size, 0, none⟩ (.tmp 10) _ rfl (hold 10 (fun j hj => low (by decide))) (load_in n0)) ⟨_, rfl, fun x hx => Option.some.inj (Option.some.inj hx), rfl, rfl⟩)
          · intro a' u vs hI hold hdep
            obtain rfl : u = W.drew := hI
            have hg := hdep ⟨4, .guard⟩ (by simp) rfl (by decide)
            have eg := hg.1.trans (hg.2 _ rfl)
            have h6 := hdep ⟨6, .data⟩ (by simp) rfl (by decide)
            have e6 := h6.1.trans (h6.2 _ rfl)
            have h7 := hdep ⟨7, .data⟩ (by simp) rfl (by decide)
            have e7 := h7.1.trans (h7.2 _ rfl)
            exact opAt_go (j := 4) (t := 50) (b := false) rfl rfl eg (wpIn_val (fun _ h => by cases h) (ex_index _ (.tmp 52) (.tmp 53) _ _ _ rfl e6 e7 (idx_en hin _)) ⟨_, rfl, fun x hx => Option.some.inj (Option.some.inj hx), rfl, rfl⟩)
          · intro a' u vs hI hold hdep
            obtain rfl : u = W.drew := hI
            have hg := hdep ⟨4, .guard⟩ (by simp) rfl (by decide)
            have eg := hg.1.trans (hg.2 _ rfl)
            have h8 := hdep ⟨8, .data⟩ (by simp) rfl (by decide)
            have e8 := h8.1.trans (h8.2 _ rfl)
            exact opAt_go (j := 4) (t := 50) (b := false) rfl rfl eg (wpIn_val (fun _ h => by cases h) (ex_field _ _ (.tmp 54) 0 _ rfl e8 (fld_rE _).1) ⟨_, rfl, fun x hx => Option.some.inj (Option.some.inj hx), rfl, rfl⟩)
          · intro a' u vs hI hold hdep
            obtain rfl : u = W.drew := hI
            have hg := hdep ⟨4, .guard⟩ (by simp) rfl (by decide)
            have eg := hg.1.trans (hg.2 _ rfl)
            have h9 := hdep ⟨9, .data⟩ (by simp) rfl (by decide)
            have e9 := h9.1.trans (h9.2 _ rfl)
            exact opAt_go (j := 4) (t := 50) (b := false) rfl rfl eg (wpIn_val (fun _ h => by cases h) (ex_load _ ⟨g, i * 3, none⟩ (.tmp 55) _ rfl e9 (load_pre c0 c1)) ⟨_, rfl, fun x hx => Option.some.inj (Option.some.inj hx), rfl, rfl⟩)
          · intro a' u vs hI hold hdep
            obtain rfl : u = W.drew := hI
            have hg := hdep ⟨4, .guard⟩ (by simp) rfl (by decide)
            have eg := hg.1.trans (hg.2 _ rfl)
            have h5 := hdep ⟨5, .data⟩ (by simp) rfl (by decide)
            have e5 := h5.1.trans (h5.2 _ rfl)
            have h10 := hdep ⟨10, .data⟩ (by simp) rfl (by decide)
            have e10 := h10.1.trans (h10.2 _ rfl)
            exact opAt_go (j := 4) (t := 50) (b := false) rfl rfl eg (wpIn_val (fun _ h => by cases h) (ex_neqK (.tmp 51) (.tmp 56) ek rfl e5 e10) ⟨_, rfl, fun x hx => Option.some.inj (Option.some.inj hx), rfl, rfl⟩)
          · intro a' u vs hI hold hdep
            obtain rfl : u = W.drew := hI
            have h4 := hdep ⟨4, .data⟩ (by simp) rfl (by decide)
            have e4 := h4.1.trans (h4.2 _ rfl)
            have h11 := hdep ⟨11, .data⟩ (by simp) rfl (by decide)
            have e11 := h11.1.trans (h11.2 _ rfl)
            exact opAt_plain rfl (wpIn_val (fun _ h => by cases h) (ex_pickF (.tmp 50) (.tmp 57) _ rfl e4 e11) ⟨_, rfl, fun x hx => Option.some.inj (Option.some.inj hx), rfl, rfl⟩)
          · intro a' u vs hI hold hdep
            obtain rfl : u = W.drew := hI
            have h12 := hdep ⟨12, .data⟩ (by simp) rfl (by decide)
            have e12 := h12.1.trans (h12.2 _ rfl)
            exact opAt_plain rfl (wpIn_val (fun _ h => by cases h) (ex_move (.tmp 58) _ rfl e12) ⟨_, rfl, fun x hx => Option.some.inj (Option.some.inj hx), rfl, rfl⟩)
          · intro a' u vs hI hold hdep
            obtain rfl : u = W.drew := hI
            have hg := hdep ⟨13, .guard⟩ (by simp) rfl (by decide)
            have eg := hg.1.trans (hg.2 _ rfl)
            exact opAt_go (j := 13) (t := 59) (b := false) rfl rfl eg (wpIn_val (fun _ h => by cases h) (ex_move (.tmp 13) _ rfl (hold 13 (fun j hj => low (by decide)))) ⟨_, rfl, fun x hx => Option.some.inj (Option.some.inj hx), rfl, rfl⟩)
          · intro a' u vs hI hold hdep
            obtain rfl : u = W.drew := hI
            have hg := hdep ⟨13, .guard⟩ (by simp) rfl (by decide)
            have eg := hg.1.trans (hg.2 _ rfl)
            exact opAt_go (j := 13) (t := 59) (b := false) rfl rfl eg (wpIn_val (fun _ h => by cases h) (ex_load _ ⟨bw, 0, none⟩ (.tmp 8) _ rfl (hold 8 (fun j hj => low (by decide))) (load_sE wt0)) ⟨_, rfl, fun x hx => Option.some.inj (Option.some.inj hx), rfl, rfl⟩)
          · intro a' u vs hI hold hdep
            obtain rfl : u = W.drew := hI
            have hg := hdep ⟨13, .guard⟩ (by simp) rfl (by decide)
            have eg := hg.1.trans (hg.2 _ rfl)
            exact opAt_go (j := 13) (t := 59) (b := false) rfl rfl eg (wpIn_val (fun _ h => by cases h) (ex_load _ ⟨Z0.heap.size, 0, none⟩ (.tmp 10) _ rfl (hold 10 (fun j hj => low (by decide))) (load_in n0)) ⟨_, rfl, fun x hx => Option.some.inj (Option.some.inj hx), rfl, rfl⟩)
          · intro a' u vs hI hold hdep
            obtain rfl : u = W.drew := hI
            have hg := hdep ⟨13, .guard⟩ (by simp) rfl (by decide)
            have eg := hg.1.trans (hg.2 _ rfl)
            have h15 := hdep ⟨15, .data⟩ (by simp) rfl (by decide)
            have e15 := h15.1.trans (h15.2 _ rfl)
            have h16 := hdep ⟨16, .data⟩ (by simp) rfl (by decide)
            have e16 := h16.1.trans (h16.2 _ rfl)
            exact opAt_go (j := 13) (t := 59) (b := false) rfl rfl eg (wpIn_val (fun _ h => by cases h) (ex_index _ (.tmp 61) (.tmp 62) _ _ _ rfl e15 e16 (idx_en hin _)) ⟨_, rfl, fun x hx => Option.some.inj (Option.some.inj hx), rfl, rfl⟩)
          · intro a' u vs hI hold hdep
            obtain rfl : u = W.drew := hI
            have hg := hdep ⟨13, .guard⟩ (by simp) rfl (by decide)
            have eg := hg.1.trans (hg.2 _ rfl)
            have h17 := hdep ⟨17, .data⟩ (by simp) rfl (by decide)
            have e17 := h17.1.trans (h17.2 _ rfl)
            exact opAt_go (j := 13) (t := 59) (b := false) rfl rfl eg (wpIn_val (fun _ h => by cases h) (ex_field _ _ (.tmp 63) 1 _ rfl e17 (fld_rE _).2) ⟨_, rfl, fun x hx => Option.some.inj (Option.some.inj hx), rfl, rfl⟩)
          · intro a' u vs hI hold hdep
            obtain rfl : u = W.drew := hI
            have hg := hdep ⟨13, .guard⟩ (by simp) rfl (by decide)
            have eg := hg.1.trans (hg.2 _ rfl)
            have h18 := hdep ⟨18, .data⟩ (by simp) rfl (by decide)
            have e18 := h18.1.trans (h18.2 _ rfl)
            exact opAt_go (j := 13) (t := 59) (b := false) rfl rfl eg (wpIn_val (fun _ h => by cases h) (ex_load _ ⟨g, i * 3 + 2, none⟩ (.tmp 64) _ rfl e18 (load_in c2)) ⟨_, rfl, fun x hx => Option.some.inj (Option.some.inj hx), rfl, rfl⟩)
          · intro a' u vs hI hold hdep
            obtain rfl : u = W.drew := hI
            have hg := hdep ⟨13, .guard⟩ (by simp) rfl (by decide)
            have eg := hg.1.trans (hg.2 _ rfl)
            have h14 := hdep ⟨14, .data⟩ (by simp) rfl (by decide)
            have e14 := h14.1.trans (h14.2 _ rfl)
            have h19 := hdep ⟨19, .data⟩ (by simp) rfl (by decide)
            have e19 := h19.1.trans (h19.2 _ rfl)
            exact opAt_go (j := 13) (t := 59) (b := false) rfl rfl eg (wpIn_val (fun _ h => by cases h) (ex_neqI (.tmp 60) (.tmp 65) _ rfl e14 e19) ⟨_, rfl, fun x hx => Option.some.inj (Option.some.inj hx), rfl, rfl⟩)
        intro vs V2 hV2 hF
        subst hV2
        have f0 := hF 0 (by decide) _ rfl
        have f1 := hF 1 (by decide) _ rfl
        have f2 := hF 2 (by decide) _ rfl
        have f3 := hF 3 (by decide) _ rfl
        have f4 := hF 4 (by decide) _ rfl
        have f5 := hF 5 (by decide) _ rfl
        have f6 := hF 6 (by decide) _ rfl
        have f7 := hF 7 (by decide) _ rfl
        have f8 := hF 8 (by decide) _ rfl
        have f9 := hF 9 (by decide) _ rfl
        have f10 := hF 10 (by decide) _ rfl
        have f11 := hF 11 (by decide) _ rfl
        have f12 := hF 12 (by decide) _ rfl
        have f13 := hF 13 (by decide) _ rfl
        have f14 := hF 14 (by decide) _ rfl
        have f15 := hF 15 (by decide) _ rfl
        have f16 := hF 16 (by decide) _ rfl
        have f17 := hF 17 (by decide) _ rfl
        have f18 := hF 18 (by decide) _ rfl
        have f19 := hF 19 (by decide) _ rfl
        have f20 := hF 20 (by decide) _ rfl
        simp only [List.drop_succ_cons, List.drop_zero, puts, List.range, List.range.loop, List.foldr, Nat.reduceAdd, if_true, f0, f1, f2, f3, f4, f5, f6, f7, f8, f9, f10, f11, f12, f13, f14, f15, f16, f17, f18, f19, f20, Act.put, List.setIfInBounds_toArray, List.set_cons_zero, List.set_cons_succ]
        clear hF f0 f1 f2 f3 f4 f5 f6 f7 f8 f9 f10 f11 f12 f13 f14 f15 f16 f17 f18 f19 f20
        gi_wp2
        exact HFIN.out _ (by rfl) (by rfl) (by rfl) (by rfl)
      case done1 =>
        rintro D1 W hD ⟨i1, i2, i3, i4⟩ hK
        have hwb := HKZ0.out.below i2
        have n0 : W.cell? ⟨Z0.heap.size, 0, none⟩ = some (.int .i64 ((entsIn (ents m.tr) x y).length : Int)) := by rw [cell_of_row _ _ _ _ _ _ i3]; rfl
        have l0 : W.cell? ⟨Z0.heap.size + 1, 0, none⟩ = some (.bool false) := by rw [cell_of_row _ _ _ _ _ _ i4]; rfl
        have r0 : W.cell? ⟨rbx1, 0, none⟩ = some (.int .i64 1) := by rw [cell_of_row _ _ _ _ _ _ (below_keeps i2 RR1.out (Array.getElem?_eq_some_iff.1 RR1.out).1)]; rfl
        obtain ⟨ao, nE, cap, hvw, HNE, hnc, hcm⟩ := hwb.en.shape
        have hwt := hwb.wt
        rw [hvw] at hwt
        have wt0 : W.cell? ⟨bw, 0, none⟩ = some (.slice ao nE cap) := by rw [cell_of_row _ _ _ _ _ _ hwt]; rfl
        rw [← HNE.out] at n0
        obtain ⟨Z1, HZ1⟩ : ∃ Z1, Hid (Z1 = W.alloc (.cells #[.int .i64 2] 3)) := ⟨_, rfl⟩
        have hbZ1 : Below W.heap.size W Z1 := by rw [HZ1.out]; exact (Below.refl _ _).alloc (Nat.le_refl _) _
        have HKZ1 := hid (hwb.below hbZ1)
        have RR2 : Hid (Z1.heap[W.heap.size]? = some (.cells #[.int .i64 2] 3)) := by rw [HZ1.out]; exact heap_alloc_new W _
        have HD1Z1 : Hid (Z1.heap[D1]? = some (.deferred (some []))) := below_keeps hbZ1 hK (Array.getElem?_eq_some_iff.1 hK).1
        have HDW1 := hid hD
        have HSW1 : Hid (w.heap.size + 2 ≤ W.heap.size) := by have h1 := (Array.getElem?_eq_some_iff.1 hwb.rs).1; unfold Hid; omega
        have HD0Z1 : Hid (Z1.heap[D0]? = some (.deferred (some []))) := by
          have h1 := (Array.getElem?_eq_some_iff.1 HD0Z0.out).1
          have h2 := below_keeps i2 HD0Z0.out h1
          exact below_keeps hbZ1 h2 (Array.getElem?_eq_some_iff.1 h2).1
        have HDS1 : Hid (w.heap.size + 2 ≤ D1) := by have h1 := (Array.getElem?_eq_some_iff.1 HKZ0.out.rs).1; have h2 := HSU1.out; unfold Hid; omega
        have HDN : Hid (D1 ≠ D0) := by have h1 := (Array.getElem?_eq_some_iff.1 HD0Z0.out).1; have h2 := HSU1.out; unfold Hid; omega
        obtain ⟨rbx2, Hrbx2⟩ : ∃ q, Hid (q = W.heap.size) := ⟨_, rfl⟩
        rw [← Hrbx2.out] at RR2
        clear hwb hwt i1 i2 i3 i4 hK hD hbZ1 hvw
        go_wp2_with fail
        rw [← HZ1.out, ← Hrbx2.out]
        have q0 : Z1.cell? ⟨rbx2, 0, none⟩ = some (.int .i64 2) := by rw [cell_of_row _ _ _ _ _ _ RR2.out]; rfl
        have hwb := HKZ1.out
        have rs0 : Z1.cell? ⟨w.heap.size + 1, 0, none⟩ = some (.bool false) := by rw [cell_of_row _ _ _ _ _ _ hwb.rs]; rfl
        have rsf : Z1.frozen? ⟨w.heap.size + 1, 0, none⟩ = false := frozen_of_row _ _ _ _ _ hwb.rs
        obtain ⟨Y2, hY2⟩ : ∃ Y2, Y2 = Z1.setCell ⟨w.heap.size + 1, 0, none⟩ (.bool true) := ⟨_, rfl⟩
        have bt : But (w.heap.size + 1) Z1 Y2 := by rw [hY2]; exact But.set _ _ _ _
        have hsz := (Array.getElem?_eq_some_iff.1 hwb.rs).1
        have RS : Hid (Y2.heap[w.heap.size + 1]? = some (.cells #[.bool true] 4)) := by rw [hY2]; exact set_row hwb.rs
        have HBY : Hid (Below w.heap.size w Y2) := bt.below hwb.bel (by omega) (by omega)
        have hd0 := HDW0.out
        have hd1 := HDW1.out
        have E0 : Hid (Y2.heap[D0]? = some (.deferred (some []))) := (bt.block _ (Array.getElem?_eq_some_iff.1 HD0Z1.out).1 (by have := HDS0.out; omega)).trans HD0Z1.out
        have E1 : Hid (Y2.heap[D1]? = some (.deferred (some []))) := (bt.block _ (Array.getElem?_eq_some_iff.1 HD1Z1.out).1 (by have := HDS1.out; omega)).trans HD1Z1.out
        have HY2 := hid hY2
        clear hwb hY2 bt hsz hd0 hd1
        rw [rounds_succ]
        go_wp2_with fail
        rw [← HY2.out]
        have hK0 := E0.out
        have hK1 := E1.out
        have hne : D1 ≠ D0 := HDN.out
        have hK0' : (Y2.putObj D1 (.deferred none)).heap[D0]? = some (.deferred (some [])) := (World.putObj_heap_other (fun e => hne e.symm)).trans hK0
        have hf1 : Below w.heap.size w (Y2.putObj D1 (.deferred none)) := HBY.out.trans (belowK_b (w := w) (Nat.le_refl _) Y2 D1 _ _ (by have := HDS1.out; omega) hK1 rfl rfl)
        have hf0 : Below w.heap.size w ((Y2.putObj D1 (.deferred none)).putObj D0 (.deferred none)) := hf1.trans (belowK_b (w := w) (Nat.le_refl _) _ D0 _ _ (by have := HDS0.out; omega) hK0' rfl rfl)
        have rz : ((Y2.putObj D1 (.deferred none)).putObj D0 (.deferred none)).heap[w.heap.size + 1]? = some (.cells #[.bool true] 4) := (World.putObj_heap_other (by have := HDS0.out; omega)).trans ((World.putObj_heap_other (by have := HDS1.out; omega)).trans RS.out)
        have g0 : ((Y2.putObj D1 (.deferred none)).putObj D0 (.deferred none)).cell? ⟨w.heap.size + 1, 0, none⟩ = some (.bool true) := by rw [cell_of_row _ _ _ _ _ _ rz]; rfl
        refine ⟨by simp, .inl ⟨_, _, rfl, run_takeDeferred hK1, by simp, .inl ⟨_, _, rfl, run_takeDeferred hK0', ?_⟩⟩⟩
        exact ⟨_, (by simp [results, Try.results48, go_sem, g0]), rfl, hf0⟩
      case stop1 =>
        rintro D c W hD h hK
        exact h.elim

end Go.Proofs.Ytmnafocmbcgdiab

/-
  plays: Find, Len.
-/
namespace Go.Proofs.Ytmnafocmbcgdiab
open Go.ChangeShapes Go.WideShapes Go.ChangeAt Go.RowKit Tri N
set_option maxHeartbeats 2000000
set_option maxRecDepth 100000

theorem playsOk_puts : PlaysOk 1 3 := fun _ _ _ _ _ _ _ _ _ _ _ _ hD hx _ _ hlen hk => plays_low hD hx hlen (by omega)

theorem findV_is (o : Option (K × Int)) : ∃ (q : K) (fv er : Int), findV o = .tuple #[.agg #[.int .u32 (q.x : Int), .int .i64 (q.n : Int)], .int .i64 fv, .int .i64 er] := by
  cases o with
  | none => exact ⟨⟨0, 0⟩, 0, 3, rfl⟩
  | some e => exact ⟨e.1, e.2, 0, rfl⟩

theorem plays_find {w : World} {tb rb x A : Nat} {s y a : Int} {v : Value} {t : Tr} {L : List (K × Int)} (hD : Duo w tb rb v t L) (hA : A < 4294967296) :
    Calls Try.prog 30 #[.pointer (some ⟨tb, 0, none⟩), .pointer (some ⟨rb, 0, none⟩), .agg (oCells 4 s x y A a)] w fun e w' => e = .returned (.bool true) ∧ Stepped w w' tb rb v L.length := by
  obtain ⟨wa, HWA⟩ : ∃ wa, Hid (wa = w.alloc (.cells (oCells 4 s x y A a) 71)) := ⟨_, rfl⟩
  have hba : Below w.heap.size w wa := by rw [HWA.out]; exact (Below.refl _ _).alloc (Nat.le_refl _) _
  have r1 : wa.heap[w.heap.size]? = some (.cells (oCells 4 s x y A a) 71) := by rw [HWA.out]; exact heap_alloc_new w _
  have x4 : wa.cell? ⟨w.heap.size, 4, none⟩ = some (.int .u32 (A : Int)) := by rw [cell_of_row _ _ _ _ _ _ r1]; rfl
  obtain ⟨q, fv, er, hq⟩ := findV_is (find t A)
  have hDa := hD.below hba
  have hc := find_any A wa hDa.tr
  rw [hq] at hc
  have HC := hid hc
  have HBA := hid hba
  have R1 := hid r1
  have HDA := hid hDa
  have HQ := hid hq
  have HA := hid hA
  have HST : Hid (∀ w', Below w.heap.size w w' → Stepped w w' tb rb v L.length) := fun w' hb => Stepped.same hD hb
  have hqq : ∀ u : World, (Op.equalIn 10000 31 (.agg #[.int .u32 (q.x : Int), .int .i64 (q.n : Int)]) (.agg #[.int .u32 (q.x : Int), .int .i64 (q.n : Int)])).run Try.prog u = .ok true u := fun u => (eqK q q u).trans (by simp)
  unfold oCells at HWA ⊢
  clear hba r1 hc hD hDa hq hA
  go_enter Try.func30, Try.ntmps30
  go_upto_region 15 with fail
  rw [← HWA.out]
  go_wp2_with fail
  refine HC.out.mono ?_
  rintro _ w1 ⟨rfl, hb1⟩
  obtain ⟨w2, HW2⟩ : ∃ w2, Hid (w2 = w1.alloc (.cells #[.int .u32 (q.x : Int), .int .i64 (q.n : Int)] 31)) := ⟨_, rfl⟩
  have hb2 : Below w1.heap.size w1 w2 := by rw [HW2.out]; exact (Below.refl _ _).alloc (Nat.le_refl _) _
  have r2 : w2.heap[w1.heap.size]? = some (.cells #[.int .u32 (q.x : Int), .int .i64 (q.n : Int)] 31) := by rw [HW2.out]; exact heap_alloc_new w1 _
  have hba2 : Below wa.heap.size wa w2 := hb1.trans (hb2.mono hb1.size)
  have r1' := below_keeps hba2 R1.out (Array.getElem?_eq_some_iff.1 R1.out).1
  have y4 : w2.cell? ⟨w.heap.size, 4, none⟩ = some (.int .u32 (A : Int)) := by rw [cell_of_row _ _ _ _ _ _ r1']; rfl
  have hD2 := HDA.out.below hba2
  have hc := findR_any A w2 hD2.ref HA.out hD2.same hD2.tr.wf
  rw [HQ.out] at hc
  have HX := hid hc
  have R2 := hid r2
  have HB2 : Hid (Below w.heap.size w w2) := HBA.out.trans (hba2.mono HBA.out.size)
  clear hb1 hb2 r2 hba2 r1' hD2 hc x4
  go_upto_region 16 with fail
  rw [← HW2.out]
  go_wp2_with fail
  refine HX.out.mono ?_
  rintro _ w3 ⟨rfl, hb3⟩
  obtain ⟨w4, HW4⟩ : ∃ w4, Hid (w4 = w3.alloc (.cells #[.int .u32 (q.x : Int), .int .i64 (q.n : Int)] 31)) := ⟨_, rfl⟩
  have hb4 : Below w3.heap.size w3 w4 := by rw [HW4.out]; exact (Below.refl _ _).alloc (Nat.le_refl _) _
  have r4 : w4.heap[w3.heap.size]? = some (.cells #[.int .u32 (q.x : Int), .int .i64 (q.n : Int)] 31) := by rw [HW4.out]; exact heap_alloc_new w3 _
  have hb24 : Below w2.heap.size w2 w4 := hb3.trans (hb4.mono hb3.size)
  have r2' := below_keeps hb24 R2.out (Array.getElem?_eq_some_iff.1 R2.out).1
  have u0 : w4.cell? ⟨w1.heap.size, 0, none⟩ = some (.int .u32 (q.x : Int)) := by rw [cell_of_row _ _ _ _ _ _ r2']; rfl
  have u1 : w4.cell? ⟨w1.heap.size, 1, none⟩ = some (.int .i64 (q.n : Int)) := by rw [cell_of_row _ _ _ _ _ _ r2']; rfl
  have u2 : w4.cell? ⟨w3.heap.size, 0, none⟩ = some (.int .u32 (q.x : Int)) := by rw [cell_of_row _ _ _ _ _ _ r4]; rfl
  have u3 : w4.cell? ⟨w3.heap.size, 1, none⟩ = some (.int .i64 (q.n : Int)) := by rw [cell_of_row _ _ _ _ _ _ r4]; rfl
  have HS := hid (HST.out w4 (HB2.out.trans (hb24.mono HB2.out.size)))
  clear hb3 hb4 hb24 r4 r2' y4
  go_upto_region 17 with fail
  rw [← HW4.out]
  go_wp2_with fail
  go_ret
  exact ⟨rfl, HS.out⟩

theorem playsOk_finds : PlaysOk 4 4 := fun _ _ _ _ _ k _ _ _ _ _ _ hD hx hA _ hlen hk => by
  by_cases h : k ≤ 3
  · exact plays_low hD hx hlen h
  · obtain rfl : k = 4 := by omega
    exact plays_find hD hA
end Go.Proofs.Ytmnafocmbcgdiab

/-
  A drawn region that only reads, inside a round: one walk, in the order of the text.
-/
namespace Go.Proofs.Ytmnafocmbcgdiab
open Go.ChangeShapes Go.WideShapes Go.ChangeAt Go.RowKit Go.Shelf Tri N
set_option maxHeartbeats 4000000
set_option maxRecDepth 100000

def noDefer (ops : Array Oper) : Bool := ops.all fun o => match o.op with | .defer _ => false | _ => true

theorem noDefer_at {ops : Array Oper} (h : noDefer ops = true) {i : Nat} {o : Oper} (ho : ops[i]? = some o) : ∀ c, o.op ≠ .defer c := by
  intro c hc
  unfold noDefer at h
  rw [Array.all_eq_true_iff_forall_mem] at h
  have := h o (Array.mem_of_getElem? ho)
  rw [hc] at this
  cases this

section
variable {P : Program} {C : World → Prop} {ops : Array Oper} {l n : Nat}

theorem wpIn_of_quietR {o : Oper} {a : Act} {K : Act → Prop} {K' : Act → World → Prop} {Q' : Exit → Act → World → Prop} {w : World} (hnd : ∀ c, o.op ≠ .defer c) (hw : C w) (h : ∀ a w', C w' → K a → K' a w') (hh : o.quiet P a C K) : o.wpIn (Fence.wide.inRound l) n P a w K' Q' := by
  obtain ⟨v, h1, h2⟩ := hh
  have h3 := h1 w hw
  unfold Oper.quietAt at h3
  refine ⟨fun _ _ => trivial, ?_⟩
  rw [Fence.inRound_round, Oper.semAt_some _ _ _ hnd]
  generalize (execOp a.eval o).run P w = r at *
  cases r with
  | ok nx w' =>
    cases nx <;> simp only [Oper.quietUpon] at h3 <;> simp only [Oper.uponIn]
    case value u =>
      obtain ⟨e1, e2⟩ := h3
      rw [e1, e2]
      exact h _ _ hw h2
    case skip =>
      obtain ⟨e1, e2⟩ := h3
      rw [e1, ← e2]
      exact h _ _ hw h2
    case enter f args =>
      obtain ⟨e1, hc⟩ := h3
      rw [e1]
      refine ⟨fun h => (by cases h), ?_⟩
      have hc2 : CallsIn (Fence.wide.inRound l) (n - 1) P f args w (fun e w'' => e = .returned v ∧ C w'') := (callsIn_wide (n := n - 1)).2 hc
      exact hc2.mono fun e w'' ⟨he, hw''⟩ => by subst he; exact h _ _ hw'' h2
  | halt x w' => simp only [Oper.quietUpon] at h3

theorem wpOpIn_of_qOpR {i : Nat} {a : Act} {K : Act → Prop} {K' : Act → World → Prop} {Q' : Exit → Act → World → Prop} {w : World} (hnd : noDefer ops = true) (hC : C w) (h : ∀ a w', C w' → K a → K' a w') (hh : qOp P ops C i K a) : wpOpIn (Fence.wide.inRound l) n P ops Q' i K' a w := by
  unfold qOp at hh
  unfold wpOpIn
  split
  · rename_i ho; simp only [ho] at hh; exact h _ _ hC hh
  · rename_i o ho
    simp only [ho] at hh
    split
    · rename_i hw; simp only [hw, if_true] at hh; exact wpIn_of_quietR (noDefer_at hnd ho) hC h hh
    · rename_i hw; simp only [hw] at hh; exact ⟨fun _ _ => trivial, h _ _ hC hh⟩

theorem wpAnyIn_of_quietR {md : Region.Mode} {Q : Act → Prop} {Q' : Exit → Act → World → Prop} (hnd : noDefer ops = true) (hQ : ∀ a w, C w → Q a → Q' .normal a w) : ∀ (fuel : Nat) (listed : Array Bool) (a : Act) (w : World), C w →
    wpAnyQ P md ops C Q fuel listed a → wpAnyIn (Fence.wide.inRound l) n P md ops Q' fuel listed a w
  | 0, _, _, _, hw, h => ⟨h.1, hQ _ _ hw h.2⟩
  | fuel + 1, _, _, _, hw, h => ⟨fun h0 => hQ _ _ hw (h.1 h0), fun i hi => wpOpIn_of_qOpR hnd hw (fun a' w' hw' => wpAnyIn_of_quietR hnd hQ fuel _ a' w' hw') (h.2 i hi)⟩

theorem wpIn_region_quietR {id : Nat} {Q : Exit → Act → World → Prop} {a : Act} {w : World} (hm : P.follows .mixedOrders = true) (hB : Region.lexB .any ops = true) (hnd : noDefer ops = true) (hC : C { w with drawn := w.drawn + 1 })
    (h : wpQuiet P ops C (fun a' => ∀ w', C w' → Q .normal a' w') ops.toList a) : (Code.region id ops true).wpIn (Fence.wide.inRound l) n P Q a w := by
  simp only [Region.lexB, Bool.and_eq_true] at hB
  refine wpIn_region_any hm (wpAnyIn_of_quietR (Q := fun a' => ∀ w', C w' → Q .normal a' w') hnd (fun _ w' hw' h => h w' hw') _ _ _ _ hC ?_)
  have := wpAnyQ_lex (C := C) (md := .any) hB.1 ops.toList 0 (Array.replicate ops.size false) a (by simp) (by simpa using hB.2) h
  simpa using this
end

theorem wpIn_region_behR {l n : Nat} {P : Program} {id : Nat} {Q : Exit → Act → World → Prop} {a : Act} {w : World} {ops : List Oper} (hm : P.follows .mixedOrders = true) (hB : Region.lexB .any ops.toArray = true) (hnd : noDefer ops.toArray = true)
    (h : wpQuiet P ops.toArray (fun w' => ∃ u : Beh w, w' = u.wd) (fun a' => ∀ w', (∃ u : Beh w, w' = u.wd) → Q .normal a' w') ops a) : (Code.region id ops.toArray true).wpIn (Fence.wide.inRound l) n P Q a w :=
  wpIn_region_quietR (C := fun w' => ∃ u : Beh w, w' = u.wd) hm hB hnd ⟨⟨_, below_drewN (Below.refl _ _) 1⟩, rfl⟩ (by simpa using h)
end Go.Proofs.Ytmnafocmbcgdiab

/-
  A trie beside the reference's, with blocks that the tree leaves alone.
-/
namespace Go.Proofs.Ytmnafocmbcgdiab.DX
open Go.Proofs.Ytmnafocmbcgdiab Go.ChangeShapes Go.WideShapes Go.ChangeAt Go.RowKit Tri N
set_option maxHeartbeats 2000000
set_option maxRecDepth 100000

/-- A trie and the reference's that hold the same. -/
structure Duo (X : Nat → Prop) (w : World) (tb rb : Nat) (v : Value) (t : Tr) (L : List (K × Int)) : Prop where
  tr : TrieAt w X tb t
  ref : RefAt w rb v L
  same : Same t L
  ris : Ris L

theorem Duo.ne {X : Nat → Prop} {w : World} {tb rb : Nat} {v : Value} {t : Tr} {L : List (K × Int)} (h : Duo X w tb rb v t L) : tb ≠ rb ∧ ∀ b, v.ownBlock = some b → b ≠ tb ∧ b ≠ rb := by
  obtain ⟨m, h3, _⟩ := h.tr.tree
  refine ⟨kinds_ne h3 h.ref.1 (by decide), fun b hb => ?_⟩
  obtain ⟨cs, h1⟩ := h.ref.2.1.kind hb
  exact ⟨kinds_ne h1 h3 (by decide), kinds_ne h1 h.ref.1 (by decide)⟩

theorem Duo.below {X : Nat → Prop} {w w' : World} {tb rb : Nat} {v : Value} {t : Tr} {L : List (K × Int)} (h : Duo X w tb rb v t L) (hb : Below w.heap.size w w') : Duo X w' tb rb v t L := ⟨h.tr.grow hb, h.ref.below hb, h.same, h.ris⟩

/-- What a step at both leaves. -/
def Stepped (X : Nat → Prop) (w w' : World) (tb rb : Nat) (v : Value) (n : Nat) : Prop := (∃ v' t' L', Duo X w' tb rb v' t' L' ∧ L'.length ≤ n + 1 ∧ (v' = v ∨ ∀ b, v'.ownBlock = some b → w.heap.size ≤ b)) ∧ Chg (Touch tb rb v) w w'

theorem Stepped.same {X : Nat → Prop} {w w' : World} {tb rb : Nat} {v : Value} {t : Tr} {L : List (K × Int)} (h : Duo X w tb rb v t L) (hb : Below w.heap.size w w') : Stepped X w w' tb rb v L.length := ⟨⟨v, t, L, h.below hb, Nat.le_succ _, .inl rfl⟩, Chg.of_below hb⟩

theorem put_duo {X : Nat → Prop} {w : World} {tb rb x : Nat} {y a : Int} {v : Value} {t : Tr} {L : List (K × Int)} (hD : Duo X w tb rb v t L) (hx : x < 4294967296) (hlen : L.length ≤ 4000000000000) :
    ∃ er : Int, Calls Try.prog 11 #[.pointer (some ⟨tb, 0, none⟩), qv x y, .int .i64 a] w fun e w1 => e = .returned (.int .i64 er) ∧ Chg (fun b => b = tb) w w1 ∧
      ∀ w1', Below w1.heap.size w1 w1' → Calls Try.prog 44 #[.pointer (some ⟨rb, 0, none⟩), qv x y, .int .i64 a] w1' fun f w2 => f = .returned (.int .i64 er) ∧ Stepped X w w2 tb rb v L.length := by
  rcases bad_or (y := y) hx with hbad | ⟨p, hp, rfl, rfl⟩
  · refine ⟨11, (put_bad w hx hbad).mono ?_⟩
    rintro _ w1 ⟨rfl, hb1⟩
    refine ⟨rfl, Chg.of_below hb1, fun w1' hb1' => (putR_bad w1' hx hbad).mono ?_⟩
    rintro _ w2 ⟨rfl, hb2⟩
    have h1 := hb1.trans (hb1'.mono hb1.size)
    exact ⟨rfl, Stepped.same hD (h1.trans (hb2.mono h1.size))⟩
  · refine ⟨0, (put_any p a w hD.tr hp).mono ?_⟩
    rintro _ w1 ⟨rfl, hT1, hc1⟩
    refine ⟨rfl, hc1, fun w1' hb1' => ?_⟩
    obtain ⟨n1, n2⟩ := hD.ne
    have hR1 : RefAt w1' rb v L := (hD.ref.chg (fun e => n1 e.symm) (fun b hb => (n2 b hb).1) hc1).below hb1'
    have hT1' := hT1.grow hb1'
    have hc1' : Chg (fun b => b = tb) w w1' := hc1.trans (Chg.of_below hb1')
    have hw := hD.tr.wf
    rcases hD.same.look hw p with ⟨g1, _⟩ | ⟨i, v0, g1, g2, g3, _⟩
    · refine (putR_new p a w1' hR1 hp g1 hlen).mono ?_
      rintro _ w2 ⟨rfl, ⟨v', M, ⟨A, B, rfl, rfl, hA, hB⟩, hR2, hf⟩, hc2⟩
      have hno : ∀ e ∈ A ++ B, e.1 ≠ p := fun e he => by
        obtain ⟨i, hi⟩ := List.getElem?_of_mem he
        exact posL_none g1 i e (List.getElem?_eq_some_iff.1 hi).1 hi
      exact ⟨rfl, ⟨v', _, _, ⟨hT1'.chgT (fun b hb => RefAt.noTree hR1 b (.inl hb)) n1 hc2, hR2, hD.same.ins (H := top) top_ok hw hp hp.top hno a, hD.ris.ins hA hB hno⟩, by simp; omega, .inr fun b hb => Nat.le_trans hc1'.size (hf b hb)⟩, (hc1'.mono fun b hb => .inl hb).trans (hc2.mono fun b hb => .inr (.inl hb))⟩
    · refine (putR_set p a w1' hR1 hp g1 g2 g3).mono ?_
      rintro _ w2 ⟨rfl, hR2, hc2⟩
      exact ⟨rfl, ⟨v, _, _, ⟨hT1'.chgT (fun b hb => RefAt.noTree hR1 b (.inr hb)) (fun h => (n2 tb h).1 rfl) hc2, hR2, hD.same.set (H := top) top_ok hw hp hp.top g3 a, hD.ris.set g3 a⟩, by simp, .inl rfl⟩, (hc1'.mono fun b hb => .inl hb).trans (hc2.mono fun b hb => .inr (.inr hb))⟩

theorem del_duo {X : Nat → Prop} {w : World} {tb rb x : Nat} {y : Int} {v : Value} {t : Tr} {L : List (K × Int)} (hD : Duo X w tb rb v t L) (hx : x < 4294967296) (hlen : L.length ≤ 4000000000000) :
    ∃ a er : Int, Calls Try.prog 13 #[.pointer (some ⟨tb, 0, none⟩), qv x y] w fun e w1 => e = .returned (.tuple #[.int .i64 a, .int .i64 er]) ∧ Chg (fun b => b = tb) w w1 ∧
      ∀ w1', Below w1.heap.size w1 w1' → Calls Try.prog 45 #[.pointer (some ⟨rb, 0, none⟩), qv x y] w1' fun f w2 => f = .returned (.tuple #[.int .i64 a, .int .i64 er]) ∧ Stepped X w w2 tb rb v L.length := by
  rcases bad_or (y := y) hx with hbad | ⟨p, hp, rfl, rfl⟩
  · refine ⟨0, 11, (del_bad w hx hbad).mono ?_⟩
    rintro _ w1 ⟨rfl, hb1⟩
    refine ⟨rfl, Chg.of_below hb1, fun w1' hb1' => (delR_bad w1' hx hbad).mono ?_⟩
    rintro _ w2 ⟨rfl, hb2⟩
    have h1 := hb1.trans (hb1'.mono hb1.size)
    exact ⟨rfl, Stepped.same hD (h1.trans (hb2.mono h1.size))⟩
  · obtain ⟨n1, n2⟩ := hD.ne
    have hw := hD.tr.wf
    have hdel := del_any p w hD.tr hp
    rcases hD.same.look hw p with ⟨g1, g4⟩ | ⟨i, v0, g1, g2, g3, g4⟩
    · rw [g4] at hdel
      refine ⟨0, 3, hdel.mono ?_⟩
      rintro _ w1 ⟨rfl, hT1, hc1⟩
      refine ⟨rfl, hc1, fun w1' hb1' => ?_⟩
      have hR1 : RefAt w1' rb v L := (hD.ref.chg (fun e => n1 e.symm) (fun b hb => (n2 b hb).1) hc1).below hb1'
      have hc1' : Chg (fun b => b = tb) w w1' := hc1.trans (Chg.of_below hb1')
      have hT1' := hT1.grow hb1'
      rw [show delT t p = t by unfold delT; rw [g4]; rfl] at hT1'
      refine (delR_none p w1' hR1 hp g1).mono ?_
      rintro _ w2 ⟨rfl, hb2⟩
      exact ⟨rfl, ⟨v, t, L, ⟨hT1'.grow hb2, hR1.below hb2, hD.same, hD.ris⟩, Nat.le_succ _, .inl rfl⟩, (hc1'.mono fun b hb => .inl hb).trans (Chg.of_below hb2)⟩
    · rw [g4] at hdel
      refine ⟨v0, 0, hdel.mono ?_⟩
      rintro _ w1 ⟨rfl, hT1, hc1⟩
      refine ⟨rfl, hc1, fun w1' hb1' => ?_⟩
      have hR1 : RefAt w1' rb v L := (hD.ref.chg (fun e => n1 e.symm) (fun b hb => (n2 b hb).1) hc1).below hb1'
      have hc1' : Chg (fun b => b = tb) w w1' := hc1.trans (Chg.of_below hb1')
      have hT1' := hT1.grow hb1'
      rw [show delT t p = hang t p none by unfold delT; rw [g4]; rfl] at hT1'
      refine (delR_some p w1' hR1 hp g1 g2 g3 hlen).mono ?_
      rintro _ w2 ⟨rfl, ⟨v', hR2, hf⟩, hc2⟩
      exact ⟨rfl, ⟨v', _, _, ⟨hT1'.chgT (fun b hb => RefAt.noTree hR1 b (.inl hb)) n1 hc2, hR2, hD.same.del (H := top) top_ok hw hp hp.top, hD.ris.but _⟩, Nat.le_trans (List.length_filter_le _ _) (Nat.le_succ _), .inr fun b hb => Nat.le_trans hc1'.size (hf b hb)⟩, (hc1'.mono fun b hb => .inl hb).trans (hc2.mono fun b hb => .inr (.inl hb))⟩

theorem Stepped.from {X : Nat → Prop} {w wa w2 : World} {tb rb : Nat} {v : Value} {n : Nat} (hb : Below w.heap.size w wa) (h : Stepped X wa w2 tb rb v n) : Stepped X w w2 tb rb v n := by
  obtain ⟨⟨v', t', L', h1, h2, h3⟩, h4⟩ := h
  exact ⟨⟨v', t', L', h1, h2, h3.imp id fun h b hb' => Nat.le_trans hb.size (h b hb')⟩, (Chg.of_below hb).trans h4⟩

theorem Duo.lt {X : Nat → Prop} {w : World} {tb rb : Nat} {v : Value} {t : Tr} {L : List (K × Int)} (h : Duo X w tb rb v t L) : tb < w.heap.size := h.tr.lt tb h.tr.mem

theorem plays_put {X : Nat → Prop} {w : World} {tb rb x A : Nat} {s y a : Int} {v : Value} {t : Tr} {L : List (K × Int)} (hD : Duo X w tb rb v t L) (hx : x < 4294967296) (hlen : L.length ≤ 4000000000000) :
    Calls Try.prog 30 #[.pointer (some ⟨tb, 0, none⟩), .pointer (some ⟨rb, 0, none⟩), .agg (oCells 1 s x y A a)] w fun e w' => e = .returned (.bool true) ∧ Stepped X w w' tb rb v L.length := by
  obtain ⟨wa, HWA⟩ : ∃ wa, Hid (wa = w.alloc (.cells (oCells 1 s x y A a) 71)) := ⟨_, rfl⟩
  have hba : Below w.heap.size w wa := by rw [HWA.out]; exact (Below.refl _ _).alloc (Nat.le_refl _) _
  have r1 : wa.heap[w.heap.size]? = some (.cells (oCells 1 s x y A a) 71) := by rw [HWA.out]; exact heap_alloc_new w _
  obtain ⟨er, hcall⟩ := put_duo (y := y) (a := a) (hD.below hba) hx hlen
  have HC := hid hcall
  have HBA := hid hba
  have R1 := hid r1
  have HNE : Hid (w.heap.size ≠ tb) := Nat.ne_of_gt hD.lt
  have x2 : wa.cell? ⟨w.heap.size, 2, none⟩ = some (.int .u32 (x : Int)) := by rw [cell_of_row _ _ _ _ _ _ r1]; rfl
  have x3 : wa.cell? ⟨w.heap.size, 3, none⟩ = some (.int .i64 y) := by rw [cell_of_row _ _ _ _ _ _ r1]; rfl
  have x5 : wa.cell? ⟨w.heap.size, 5, none⟩ = some (.int .i64 a) := by rw [cell_of_row _ _ _ _ _ _ r1]; rfl
  unfold oCells at HWA ⊢
  unfold qv at HC
  clear hba r1 hcall hD
  go_enter Try.func30, Try.ntmps30
  go_upto_region 3 with fail
  rw [← HWA.out]
  go_wp2_with fail
  refine HC.out.mono ?_
  rintro _ w1 ⟨rfl, hc1, hnext⟩
  have r2 := (hc1.block w.heap.size (Array.getElem?_eq_some_iff.1 R1.out).1 HNE.out).trans R1.out
  have x2 : w1.cell? ⟨w.heap.size, 2, none⟩ = some (.int .u32 (x : Int)) := by rw [cell_of_row _ _ _ _ _ _ r2]; rfl
  have x3 : w1.cell? ⟨w.heap.size, 3, none⟩ = some (.int .i64 y) := by rw [cell_of_row _ _ _ _ _ _ r2]; rfl
  have x5 : w1.cell? ⟨w.heap.size, 5, none⟩ = some (.int .i64 a) := by rw [cell_of_row _ _ _ _ _ _ r2]; rfl
  have HX := hid (hnext w1 (Below.refl _ _))
  clear r2 hc1 hnext
  go_wp2_with fail
  refine HX.out.mono ?_
  rintro _ w2 ⟨rfl, hs⟩
  have HS := hid (Stepped.from HBA.out hs)
  clear hs x2 x3 x5
  go_wp2_with fail
  go_ret
  exact ⟨rfl, HS.out⟩

theorem plays_del {X : Nat → Prop} {w : World} {tb rb x A : Nat} {s y a : Int} {v : Value} {t : Tr} {L : List (K × Int)} (hD : Duo X w tb rb v t L) (hx : x < 4294967296) (hlen : L.length ≤ 4000000000000) :
    Calls Try.prog 30 #[.pointer (some ⟨tb, 0, none⟩), .pointer (some ⟨rb, 0, none⟩), .agg (oCells 2 s x y A a)] w fun e w' => e = .returned (.bool true) ∧ Stepped X w w' tb rb v L.length := by
  obtain ⟨wa, HWA⟩ : ∃ wa, Hid (wa = w.alloc (.cells (oCells 2 s x y A a) 71)) := ⟨_, rfl⟩
  have hba : Below w.heap.size w wa := by rw [HWA.out]; exact (Below.refl _ _).alloc (Nat.le_refl _) _
  have r1 : wa.heap[w.heap.size]? = some (.cells (oCells 2 s x y A a) 71) := by rw [HWA.out]; exact heap_alloc_new w _
  obtain ⟨a', er, hcall⟩ := del_duo (y := y) (hD.below hba) hx hlen
  have HC := hid hcall
  have HBA := hid hba
  have R1 := hid r1
  have HNE : Hid (w.heap.size ≠ tb) := Nat.ne_of_gt hD.lt
  have x2 : wa.cell? ⟨w.heap.size, 2, none⟩ = some (.int .u32 (x : Int)) := by rw [cell_of_row _ _ _ _ _ _ r1]; rfl
  have x3 : wa.cell? ⟨w.heap.size, 3, none⟩ = some (.int .i64 y) := by rw [cell_of_row _ _ _ _ _ _ r1]; rfl
  have x5 : wa.cell? ⟨w.heap.size, 5, none⟩ = some (.int .i64 a) := by rw [cell_of_row _ _ _ _ _ _ r1]; rfl
  unfold oCells at HWA ⊢
  unfold qv at HC
  clear hba r1 hcall hD
  go_enter Try.func30, Try.ntmps30
  go_upto_region 6 with fail
  rw [← HWA.out]
  go_wp2_with fail
  refine HC.out.mono ?_
  rintro _ w1 ⟨rfl, hc1, hnext⟩
  have r2 := (hc1.block w.heap.size (Array.getElem?_eq_some_iff.1 R1.out).1 HNE.out).trans R1.out
  have x2 : w1.cell? ⟨w.heap.size, 2, none⟩ = some (.int .u32 (x : Int)) := by rw [cell_of_row _ _ _ _ _ _ r2]; rfl
  have x3 : w1.cell? ⟨w.heap.size, 3, none⟩ = some (.int .i64 y) := by rw [cell_of_row _ _ _ _ _ _ r2]; rfl
  have x5 : w1.cell? ⟨w.heap.size, 5, none⟩ = some (.int .i64 a) := by rw [cell_of_row _ _ _ _ _ _ r2]; rfl
  have HX := hid (hnext w1 (Below.refl _ _))
  clear r2 hc1 hnext
  go_wp2_with fail
  refine HX.out.mono ?_
  rintro _ w2 ⟨rfl, hs⟩
  have HS := hid (Stepped.from HBA.out hs)
  clear hs x2 x3 x5
  go_wp2_with fail
  go_ret
  exact ⟨rfl, HS.out⟩

theorem plays_find {X : Nat → Prop} {w : World} {tb rb x A : Nat} {s y a : Int} {v : Value} {t : Tr} {L : List (K × Int)} (hD : Duo X w tb rb v t L) (hA : A < 4294967296) :
    Calls Try.prog 30 #[.pointer (some ⟨tb, 0, none⟩), .pointer (some ⟨rb, 0, none⟩), .agg (oCells 4 s x y A a)] w fun e w' => e = .returned (.bool true) ∧ Stepped X w w' tb rb v L.length := by
  obtain ⟨wa, HWA⟩ : ∃ wa, Hid (wa = w.alloc (.cells (oCells 4 s x y A a) 71)) := ⟨_, rfl⟩
  have hba : Below w.heap.size w wa := by rw [HWA.out]; exact (Below.refl _ _).alloc (Nat.le_refl _) _
  have r1 : wa.heap[w.heap.size]? = some (.cells (oCells 4 s x y A a) 71) := by rw [HWA.out]; exact heap_alloc_new w _
  have x4 : wa.cell? ⟨w.heap.size, 4, none⟩ = some (.int .u32 (A : Int)) := by rw [cell_of_row _ _ _ _ _ _ r1]; rfl
  obtain ⟨q, fv, er, hq⟩ := findV_is (find t A)
  have hDa := hD.below hba
  have hc := find_any A wa hDa.tr
  rw [hq] at hc
  have HC := hid hc
  have HBA := hid hba
  have R1 := hid r1
  have HDA := hid hDa
  have HQ := hid hq
  have HA := hid hA
  have HST : Hid (∀ w', Below w.heap.size w w' → Stepped X w w' tb rb v L.length) := fun w' hb => Stepped.same hD hb
  have hqq : ∀ u : World, (Op.equalIn 10000 31 (.agg #[.int .u32 (q.x : Int), .int .i64 (q.n : Int)]) (.agg #[.int .u32 (q.x : Int), .int .i64 (q.n : Int)])).run Try.prog u = .ok true u := fun u => (eqK q q u).trans (by simp)
  unfold oCells at HWA ⊢
  clear hba r1 hc hD hDa hq hA
  go_enter Try.func30, Try.ntmps30
  go_upto_region 15 with fail
  rw [← HWA.out]
  go_wp2_with fail
  refine HC.out.mono ?_
  rintro _ w1 ⟨rfl, hb1⟩
  obtain ⟨w2, HW2⟩ : ∃ w2, Hid (w2 = w1.alloc (.cells #[.int .u32 (q.x : Int), .int .i64 (q.n : Int)] 31)) := ⟨_, rfl⟩
  have hb2 : Below w1.heap.size w1 w2 := by rw [HW2.out]; exact (Below.refl _ _).alloc (Nat.le_refl _) _
  have r2 : w2.heap[w1.heap.size]? = some (.cells #[.int .u32 (q.x : Int), .int .i64 (q.n : Int)] 31) := by rw [HW2.out]; exact heap_alloc_new w1 _
  have hba2 : Below wa.heap.size wa w2 := hb1.trans (hb2.mono hb1.size)
  have r1' := below_keeps hba2 R1.out (Array.getElem?_eq_some_iff.1 R1.out).1
  have y4 : w2.cell? ⟨w.heap.size, 4, none⟩ = some (.int .u32 (A : Int)) := by rw [cell_of_row _ _ _ _ _ _ r1']; rfl
  have hD2 := HDA.out.below hba2
  have hc := findR_any A w2 hD2.ref HA.out hD2.same hD2.tr.wf
  rw [HQ.out] at hc
  have HX := hid hc
  have R2 := hid r2
  have HB2 : Hid (Below w.heap.size w w2) := HBA.out.trans (hba2.mono HBA.out.size)
  clear hb1 hb2 r2 hba2 r1' hD2 hc x4
  go_upto_region 16 with fail
  rw [← HW2.out]
  go_wp2_with fail
  refine HX.out.mono ?_
  rintro _ w3 ⟨rfl, hb3⟩
  obtain ⟨w4, HW4⟩ : ∃ w4, Hid (w4 = w3.alloc (.cells #[.int .u32 (q.x : Int), .int .i64 (q.n : Int)] 31)) := ⟨_, rfl⟩
  have hb4 : Below w3.heap.size w3 w4 := by rw [HW4.out]; exact (Below.refl _ _).alloc (Nat.le_refl _) _
  have r4 : w4.heap[w3.heap.size]? = some (.cells #[.int .u32 (q.x : Int), .int .i64 (q.n : Int)] 31) := by rw [HW4.out]; exact heap_alloc_new w3 _
  have hb24 : Below w2.heap.size w2 w4 := hb3.trans (hb4.mono hb3.size)
  have r2' := below_keeps hb24 R2.out (Array.getElem?_eq_some_iff.1 R2.out).1
  have u0 : w4.cell? ⟨w1.heap.size, 0, none⟩ = some (.int .u32 (q.x : Int)) := by rw [cell_of_row _ _ _ _ _ _ r2']; rfl
  have u1 : w4.cell? ⟨w1.heap.size, 1, none⟩ = some (.int .i64 (q.n : Int)) := by rw [cell_of_row _ _ _ _ _ _ r2']; rfl
  have u2 : w4.cell? ⟨w3.heap.size, 0, none⟩ = some (.int .u32 (q.x : Int)) := by rw [cell_of_row _ _ _ _ _ _ r4]; rfl
  have u3 : w4.cell? ⟨w3.heap.size, 1, none⟩ = some (.int .i64 (q.n : Int)) := by rw [cell_of_row _ _ _ _ _ _ r4]; rfl
  have HS := hid (HST.out w4 (HB2.out.trans (hb24.mono HB2.out.size)))
  clear hb3 hb4 hb24 r4 r2' y4
  go_upto_region 17 with fail
  rw [← HW4.out]
  go_wp2_with fail
  go_ret
  exact ⟨rfl, HS.out⟩

end Go.Proofs.Ytmnafocmbcgdiab.DX

/-
  For TrieAmid: what plays leave as it is.
-/
namespace Go.Proofs.Ytmnafocmbcgdiab
open Go.ChangeShapes Go.WideShapes Go.ChangeAt Go.RowKit Go.Shelf Tri N
set_option maxHeartbeats 4000000
set_option maxRecDepth 100000

/-- What no play writes. -/
def Fixed (o : Obj) : Prop := ∀ cs t, o = .cells cs t → t ≠ 50 ∧ t ≠ 92 ∧ t ≠ 77

theorem fixed_cells {cs : Array Value} {t : TypeId} (h : t ≠ 50 ∧ t ≠ 92 ∧ t ≠ 77) : Fixed (.cells cs t) := fun cs' t' e => by cases e; exact h
theorem fixed_other {o : Obj} (h : o.isCells = false) : Fixed o := fun cs t e => by subst e; cases h
theorem fixed_mine {o : Obj} (h : Mine o) : Fixed o := by
  rcases h with h | ⟨cs, rfl⟩ | ⟨cs, rfl⟩
  · exact fixed_other h
  · exact fixed_cells (by decide)
  · exact fixed_cells (by decide)

/-- All of the fixed blocks and of P's is as it was. -/
structure Fr (P : Nat → Prop) (U W : World) : Prop where
  size : U.heap.size ≤ W.heap.size
  keep : ∀ b o, U.heap[b]? = some o → (P b ∨ Fixed o) → W.heap[b]? = some o

section
variable {P : Nat → Prop} {U V W : World}
theorem Fr.refl : Fr P U U := ⟨Nat.le_refl _, fun _ _ h _ => h⟩
theorem Fr.trans (h1 : Fr P U V) (h2 : Fr P V W) : Fr P U W := ⟨Nat.le_trans h1.size h2.size, fun b o h hp => h2.keep b o (h1.keep b o h hp) hp⟩
theorem Fr.of_below (h : Below U.heap.size U W) : Fr P U W := ⟨h.size, fun b _ hb _ => (h.block b (Array.getElem?_eq_some_iff.1 hb).1).trans hb⟩
theorem Fr.cells (h : Fr P U W) {b : Nat} {cs : Array Value} {t : TypeId} (hb : U.heap[b]? = some (.cells cs t)) (ht : t ≠ 50 ∧ t ≠ 92 ∧ t ≠ 77) : W.heap[b]? = some (.cells cs t) := h.keep b _ hb (.inr (fixed_cells ht))
theorem Fr.keepsN {B : Nat} (h : Fr P U W) : KeepsN B U W := ⟨h.size, fun k o _ ho hm => h.keep k o ho (.inr (fixed_mine hm))⟩
end

theorem own_keep {U W : World} {base : Nat} {v : Value} {L : List (K × Int)} (h : OwnE U base v L) (hk : ∀ b o, v.ownBlock = some b → U.heap[b]? = some o → W.heap[b]? = some o) : OwnE W base v L := by
  refine ⟨h.1, ?_⟩
  rcases h.2 with ⟨hv, hn⟩ | ⟨g, cap', cur, hv, hb', hg, hrest⟩
  · exact .inl ⟨hv, hn⟩
  · exact .inr ⟨g, cap', cur, hv, hb', hk g _ (by rw [hv]; rfl) hg, hrest⟩

theorem lies_new {V : World} {X : Nat → Prop} {m : MT} (h : Lies V X m) {n : Nat} (hn : V.heap.size ≤ n) : Lies V (fun b => X b ∨ b = n) m := by
  induction m with
  | nil => trivial
  | node b c k u l r il ir =>
    obtain ⟨q1, q2, q3, q4, q5⟩ := h
    have hb := (Array.getElem?_eq_some_iff.1 q2).1
    refine ⟨fun hx => hx.elim q1 (fun e => by omega), q2, fun a ha => ⟨fun hx => hx.elim (q3 a ha).1 (fun e => ?_), (q3 a ha).2⟩, il q4, ir q5⟩
    have hc := (Array.getElem?_eq_some_iff.1 (q3 a ha).2).1
    omega

theorem lies_anti {w : World} {X Y : Nat → Prop} {m : MT} (hXY : ∀ b, Y b → X b) (h : Lies w X m) : Lies w Y m := by
  induction m with
  | nil => trivial
  | node b c k u l r il ir =>
    obtain ⟨h1, h2, h3, h4, h5⟩ := h
    exact ⟨fun hy => h1 (hXY _ hy), h2, fun v hv => ⟨fun hy => (h3 v hv).1 (hXY _ hy), (h3 v hv).2⟩, il h4, ir h5⟩

theorem trie_anti {w : World} {X Y : Nat → Prop} {tb : Nat} {t : Tr} (h : TrieAt w X tb t) (hXY : ∀ b, Y b → X b) (hy : Y tb) : TrieAt w Y tb t := by
  obtain ⟨_, h2, ⟨m, h3, h4, h5⟩, h6⟩ := h
  exact ⟨hy, fun b hb => h2 b (hXY b hb), ⟨m, h3, h4, lies_anti hXY h5⟩, h6⟩

theorem trie_other {w w' : World} {X Z : Nat → Prop} {tb : Nat} {t : Tr} (h : TrieAt w X tb t) (hZ : ∀ b, Z b → X b) (hn : ¬ Z tb) (hc : Chg Z w w') : TrieAt w' X tb t := by
  obtain ⟨h1, h2, ⟨m, h3, h4, h5⟩, h6⟩ := h
  exact ⟨h1, fun b hx => Nat.lt_of_lt_of_le (h2 b hx) hc.size, ⟨m, (hc.block tb (Array.getElem?_eq_some_iff.1 h3).1 hn).trans h3, h4, h5.chg (hc.mono hZ)⟩, h6⟩

theorem ents_nodes (t : Tr) : (ents t).length ≤ nodes t := by
  induction t with
  | nil => simp [ents]
  | node k u l r il ir => cases u <;> simp [nodes, ents, own] <;> omega

theorem DX.Duo.len {X : Nat → Prop} {w : World} {tb rb : Nat} {v : Value} {t : Tr} {L : List (K × Int)} (h : DX.Duo X w tb rb v t L) : L.length ≤ 4000000000000 := by
  rw [Same.eq h.same h.ris h.tr.wf]
  have h1 := WF_nodes h.tr.wf
  rw [show top.x = 0 from rfl, top_s] at h1
  have h2 := ents_nodes t
  omega

theorem DX.Duo.kt {X : Nat → Prop} {w : World} {tb rb : Nat} {v : Value} {t : Tr} {L : List (K × Int)} (h : DX.Duo X w tb rb v t L) : ∃ cs, w.heap[tb]? = some (.cells cs 50) := by
  obtain ⟨m, h3, _⟩ := h.tr.tree
  exact ⟨_, h3⟩

theorem DX.Duo.noTouch {X : Nat → Prop} {w : World} {tb rb : Nat} {v : Value} {t : Tr} {L : List (K × Int)} (h : DX.Duo X w tb rb v t L) : NoTree w (Touch tb rb v) := fun b hb => by
  rcases hb with hb | hb
  · exact h.tr.noTree b hb
  · exact h.ref.noTree b hb

theorem DX.Duo.chgZ {X Z : Nat → Prop} {w w' : World} {tb rb : Nat} {v : Value} {t : Tr} {L : List (K × Int)} (h : DX.Duo X w tb rb v t L) (hZ : NoTree w Z) (h1 : ¬ Z tb) (h2 : ¬ Z rb) (h3 : ∀ b, v.ownBlock = some b → ¬ Z b) (hc : Chg Z w w') : DX.Duo X w' tb rb v t L :=
  ⟨h.tr.chgT hZ h1 hc, h.ref.chg h2 h3 hc, h.same, h.ris⟩

/-- A trie and the reference's, all of it new since w; the reference's list in none of P's blocks. -/
structure AmD (w : World) (X P : Nat → Prop) (tb rb : Nat) (W : World) : Prop where
  bel : Below w.heap.size w W
  lo : w.heap.size ≤ tb ∧ w.heap.size ≤ rb
  duo : ∃ v t L, DX.Duo X W tb rb v t L ∧ ∀ b, v.ownBlock = some b → w.heap.size ≤ b ∧ ¬ P b

section
variable {w : World} {X P : Nat → Prop} {tb rb : Nat} {W W' : World}

theorem AmD.below (h : AmD w X P tb rb W) (hb : Below W.heap.size W W') : AmD w X P tb rb W' := by
  obtain ⟨v, t, L, hd, hv⟩ := h.duo
  exact ⟨h.bel.trans (hb.mono h.bel.size), h.lo, v, t, L, hd.below hb, hv⟩

theorem AmD.grown {B : Nat} {row : Option Nat} (h : AmD w X P tb rb W) (hg : W.grownBy W' row) (hr : ∀ r, row = some r → B ≤ r ∧ ∃ o : Obj, W.heap[r]? = some o ∧ Mine o) (hw : w.heap.size ≤ B) : AmD w X P tb rb W' := by
  obtain ⟨v, t, L, hd, hv⟩ := h.duo
  have hc : Chg (fun b => row = some b) W W' := ⟨hg.os, hg.tape, hg.output, hg.size, fun j hj hn => hg.block j hj (fun e => hn e.symm)⟩
  have hno : ∀ b cs t, row = some b → W.heap[b]? = some (.cells cs t) → t = 48 ∨ t = 93 := fun b cs t hb hcs => by
    obtain ⟨_, o, ho, hm⟩ := hr b hb
    rw [hcs] at ho
    cases ho
    rcases hm with hm | ⟨ds, hm⟩ | ⟨ds, hm⟩
    · cases hm
    · injection hm with _ hm; exact .inl hm
    · injection hm with _ hm; exact .inr hm
  refine ⟨⟨hg.os.trans h.bel.os, hg.tape.trans h.bel.tape, hg.output.trans h.bel.output, Nat.le_trans h.bel.size hg.size, fun b hb => (hg.block b (Nat.lt_of_lt_of_le hb h.bel.size) (fun e => by have := (hr b e.symm).1; omega)).trans (h.bel.block b hb)⟩, h.lo, v, t, L, hd.chgZ (fun b hb cs t hcs => ?_) (fun hb => ?_) (fun hb => ?_) (fun b hb hz => ?_) hc, hv⟩
  · rcases hno b cs t hb hcs with rfl | rfl <;> exact ⟨by decide, by decide⟩
  · obtain ⟨cs, hcs⟩ := hd.kt
    rcases hno _ cs _ hb hcs with e | e <;> exact absurd e (by decide)
  · rcases hno _ _ _ hb hd.ref.1 with e | e <;> exact absurd e (by decide)
  · obtain ⟨cs, hcs⟩ := hd.ref.2.1.kind hb
    rcases hno _ cs _ hz hcs with e | e <;> exact absurd e (by decide)

theorem AmD.play {k s y a : Int} {x A : Nat} (h : AmD w X P tb rb W) (hP : ∀ b, P b → b < W.heap.size ∧ b ≠ tb ∧ b ≠ rb) (hk : k = 1 ∨ k = 2 ∨ k = 4) (hx : x < 4294967296) (hA : A < 4294967296) :
    Calls Try.prog 30 #[.pointer (some ⟨tb, 0, none⟩), .pointer (some ⟨rb, 0, none⟩), .agg (oCells k s x y A a)] W fun e W' => e = .returned (.bool true) ∧ AmD w X P tb rb W' ∧ Fr P W W' ∧ ∀ Y m, Lies W Y m → Lies W' Y m := by
  obtain ⟨v, t, L, hd, hv⟩ := h.duo
  have key : Calls Try.prog 30 #[.pointer (some ⟨tb, 0, none⟩), .pointer (some ⟨rb, 0, none⟩), .agg (oCells k s x y A a)] W fun e W' => e = .returned (.bool true) ∧ DX.Stepped X W W' tb rb v L.length := by
    rcases hk with rfl | rfl | rfl
    · exact DX.plays_put hd hx hd.len
    · exact DX.plays_del hd hx hd.len
    · exact DX.plays_find hd hA
  refine key.mono ?_
  rintro e W' ⟨he, ⟨v', t', L', hd', _, hv'⟩, hc⟩
  have hlo : ∀ b, Touch tb rb v b → w.heap.size ≤ b := fun b hb => by
    rcases hb with rfl | rfl | hb
    · exact h.lo.1
    · exact h.lo.2
    · exact (hv b hb).1
  have hsz := h.bel.size
  refine ⟨he, ⟨h.bel.trans (hc.behind hsz hlo), h.lo, v', t', L', hd', fun b hb => ?_⟩, ⟨hc.size, fun b o hb hp => (hc.block b (Array.getElem?_eq_some_iff.1 hb).1 (fun ht => ?_)).trans hb⟩, fun Y m hl => hl.chgT hd.noTouch hc⟩
  · rcases hv' with rfl | hv'
    · exact hv b hb
    · have h1 := hv' b hb
      exact ⟨by omega, fun hp => by have := (hP b hp).1; omega⟩
  · rcases hp with hp | hp
    · rcases ht with ht | ht | ht
      · exact (hP b hp).2.1 ht
      · exact (hP b hp).2.2 ht
      · exact (hv b ht).2 hp
    · rcases ht with ht | ht | ht
      · obtain ⟨cs, hcs⟩ := hd.kt
        rw [ht, hcs] at hb
        exact (hp _ _ (Option.some.inj hb).symm).1 rfl
      · have hcs := hd.ref.1
        rw [ht, hcs] at hb
        exact (hp _ _ (Option.some.inj hb).symm).2.1 rfl
      · obtain ⟨cs, hcs⟩ := hd.ref.2.1.kind ht
        rw [hcs] at hb
        exact (hp _ _ (Option.some.inj hb).symm).2.2 rfl

theorem AmD.setN {nb : Nat} {cs : Array Value} (h : AmD w X P tb rb W) (hX : X nb) (hn : W.heap[nb]? = some (.cells cs 3)) (hlo : w.heap.size ≤ nb) (hb : But nb W W') : AmD w X P tb rb W' := by
  obtain ⟨v, t, L, hd, hv⟩ := h.duo
  have hc : Chg (fun b => b = nb) W W' := Chg.of_but hb rfl
  obtain ⟨ct, hct⟩ := hd.kt
  refine ⟨hb.below h.bel h.bel.size hlo, h.lo, v, t, L, ⟨trie_other (Z := fun b => b = nb) hd.tr (fun b e => e ▸ hX) (kinds_ne hct hn (by decide)) hc, hd.ref.chg (Z := fun b => b = nb) (kinds_ne hd.ref.1 hn (by decide)) (fun b hb' => ?_) hc, hd.same, hd.ris⟩, hv⟩
  obtain ⟨ce, hce⟩ := hd.ref.2.1.kind hb'
  exact kinds_ne hce hn (by decide)

/-- Another pair of X and P, behind a new block. -/
theorem AmD.again {Q : Nat → Prop} {nb : Nat} (h : AmD w X P tb rb W) (hnb : W.heap.size ≤ nb) (hb : Below W.heap.size W W') (hlt : nb < W'.heap.size) (hX : X tb) (hQ : ∀ v t L, DX.Duo X W tb rb v t L → (∀ b, v.ownBlock = some b → w.heap.size ≤ b ∧ ¬ P b) → ∀ b, v.ownBlock = some b → ¬ Q b) : AmD w (fun b => b = tb ∨ b = nb) Q tb rb W' := by
  obtain ⟨v, t, L, hd, hv⟩ := h.duo
  have ht := trie_anti hd.tr (Y := fun b => b = tb) (fun b e => e ▸ hX) rfl
  obtain ⟨g1, g2, ⟨m, g3, g4, g5⟩, g6⟩ := ht
  have g2' := g2 tb rfl
  refine ⟨h.bel.trans (hb.mono h.bel.size), h.lo, v, t, L, ⟨⟨.inl rfl, fun b hb' => ?_, ⟨m, below_keeps hb g3 (Array.getElem?_eq_some_iff.1 g3).1, g4, (lies_new g5 hnb).below hb⟩, g6⟩, hd.ref.below hb, hd.same, hd.ris⟩, fun b hb' => ⟨(hv b hb').1, hQ v t L hd hv b hb'⟩⟩
  have := hb.size
  rcases hb' with e | e <;> omega
end

/-- Inside the range: behind i rounds. -/
structure AmI (w U : World) (X P : Nat → Prop) (tb rb nb : Nat) (m : MT) (i : Nat) (V : World) : Prop where
  am : AmD w X P tb rb V
  sz : U.heap.size ≤ V.heap.size
  fr : ∀ b o, U.heap[b]? = some o → b ≠ nb → (P b ∨ Fixed o) → V.heap[b]? = some o
  li : Lies V X m
  nx : V.heap[nb]? = some (.cells #[.int .i64 (i : Int)] 3)
  wi : i = 0 → V.heap[tb]? = some (.cells #[m.ptr] 50)

section
variable {w U : World} {X P : Nat → Prop} {tb rb nb : Nat} {m : MT} {i : Nat} {V V' : World}

theorem AmI.cells (h : AmI w U X P tb rb nb m i V) {b : Nat} {cs : Array Value} {t : TypeId} (hb : U.heap[b]? = some (.cells cs t)) (hn : b ≠ nb) (ht : t ≠ 50 ∧ t ≠ 92 ∧ t ≠ 77) : V.heap[b]? = some (.cells cs t) := h.fr b _ hb hn (.inr (fixed_cells ht))

theorem AmI.own (hnb : nb < U.heap.size) (htb : tb < U.heap.size) (hw : w.heap.size ≤ U.heap.size) : OwnN U.heap.size (fun i V => AmI w U X P tb rb nb m i V) := by
  rintro i V V' row h hg hr
  have hne : ∀ j, j < U.heap.size → some j ≠ row := fun j hj e => by have := (hr j e.symm).1; omega
  have hsz := h.sz
  have hc : Chg (fun b => row = some b) V V' := ⟨hg.os, hg.tape, hg.output, hg.size, fun j hj hn => hg.block j hj (fun e => hn e.symm)⟩
  refine ⟨h.am.grown hg hr hw, Nat.le_trans h.sz hg.size, fun b o hb hn hp => ?_, h.li.chgT (fun b hb cs t hcs => ?_) hc, (hg.block nb (by omega) (hne nb hnb)).trans h.nx, fun h0 => (hg.block tb (by omega) (hne tb htb)).trans (h.wi h0)⟩
  · have hlt := (Array.getElem?_eq_some_iff.1 hb).1
    exact (hg.block b (by omega) (hne b hlt)).trans (h.fr b o hb hn hp)
  · obtain ⟨_, o, ho, hm⟩ := hr b hb
    rw [hcs] at ho
    cases ho
    rcases hm with hm | ⟨ds, hm⟩ | ⟨ds, hm⟩
    · cases hm
    · injection hm with _ hm; subst hm; exact ⟨by decide, by decide⟩
    · injection hm with _ hm; subst hm; exact ⟨by decide, by decide⟩

/-- Within a round: what is there behind some plays. -/
structure InP (w : World) (X P : Nat → Prop) (tb rb : Nat) (m : MT) (V V' : World) : Prop where
  am : AmD w X P tb rb V'
  fr : Fr P V V'
  li : Lies V' X m

theorem AmI.inp (h : AmI w U X P tb rb nb m i V) : InP w X P tb rb m V V := ⟨h.am, Fr.refl, h.li⟩

theorem InP.below {W W' : World} (h : InP w X P tb rb m V W) (hb : Below W.heap.size W W') : InP w X P tb rb m V W' := ⟨h.am.below hb, h.fr.trans (Fr.of_below hb), h.li.below hb⟩

/-- The end of a round: n is one more. -/
theorem AmI.next {W W' : World} (h : AmI w U X P tb rb nb m i V) (hi : InP w X P tb rb m V W) (hX : X nb) (hlo : w.heap.size ≤ nb) (hnb : nb < U.heap.size) (hb : But nb W W') (hv : W'.heap[nb]? = some (.cells #[.int .i64 ((i + 1 : Nat) : Int)] 3)) :
    KeepsN U.heap.size V W' ∧ AmI w U X P tb rb nb m (i + 1) W' := by
  have hn : W.heap[nb]? = some (.cells #[.int .i64 (i : Int)] 3) := hi.fr.cells h.nx (by decide)
  refine ⟨⟨Nat.le_trans hi.fr.size hb.size, fun k o hk ho hm => ?_⟩, hi.am.setN hX hn hlo hb, Nat.le_trans h.sz (Nat.le_trans hi.fr.size hb.size), fun b o hb' hnn hp => ?_, hi.li.chg ((Chg.of_but (X := fun b => b = nb) hb rfl).mono fun b e => e ▸ hX), hv, fun h0 => absurd h0 (by omega)⟩
  · have h1 := hi.fr.keep k o ho (.inr (fixed_mine hm))
    exact (hb.block k (Array.getElem?_eq_some_iff.1 h1).1 (by omega)).trans h1
  · have h1 := hi.fr.keep b o (h.fr b o hb' hnn hp) hp
    exact (hb.block b (Array.getElem?_eq_some_iff.1 h1).1 hnn).trans h1

theorem InP.play {W : World} {k s y a : Int} {x A : Nat} (h : InP w X P tb rb m V W) (hP : ∀ b, P b → b < V.heap.size ∧ b ≠ tb ∧ b ≠ rb) (hk : k = 1 ∨ k = 2 ∨ k = 4) (hx : x < 4294967296) (hA : A < 4294967296) :
    Calls Try.prog 30 #[.pointer (some ⟨tb, 0, none⟩), .pointer (some ⟨rb, 0, none⟩), .agg (oCells k s x y A a)] W fun e W' => e = .returned (.bool true) ∧ InP w X P tb rb m V W' := by
  refine (h.am.play (fun b hb => ⟨Nat.lt_of_lt_of_le (hP b hb).1 h.fr.size, (hP b hb).2⟩) hk hx hA).mono ?_
  rintro e W' ⟨he, h1, h2, h3⟩
  exact ⟨he, h1, h.fr.trans h2, h3 _ _ h.li⟩
end
end Go.Proofs.Ytmnafocmbcgdiab

/-
  For TrieAmid: the iterator, the rows, what is wanted.
-/
namespace Go.Proofs.Ytmnafocmbcgdiab
open Go.ChangeShapes Go.WideShapes Go.ChangeAt Go.RowKit Go.Shelf Tri N
set_option maxHeartbeats 4000000
set_option maxRecDepth 100000

theorem amid_gives (n : Nat) (hn : 4 ≤ n) (X : Nat → Prop) (pbx tbx tb x : Nat) (y : Int) (m : MT) (hx : x < 4294967296) {lo hi : Nat} (hwf : WF lo hi m.tr) (hm : nodes m.tr ≤ 10000000000) :
    GivesN Fence.wide n Try.prog 41 #[.pointer (some ⟨pbx, 0, none⟩), .pointer (some ⟨tbx, 0, none⟩)] (fun e : K × Int => #[pv e.1, .int .i64 e.2]) (entsIn (ents m.tr) x y)
      (fun k W => Lies W X m ∧ W.heap[pbx]? = some (.cells #[.int .u32 (x : Int), .int .i64 y] 31) ∧ W.heap[tbx]? = some (.cells #[.pointer (some ⟨tb, 0, none⟩)] 24) ∧ (k = 0 → W.heap[tb]? = some (.cells #[m.ptr] 50))) := by
  unfold entsIn
  rcases bad_or (y := y) hx with hb | ⟨k, hk, rfl, rfl⟩
  · rw [valB_bad hb]
    exact (within_none n pbx tbx x y hx hb).weak fun _ W h => h.2.1
  · rw [valB_ok hk]
    exact (within_gives n hn X pbx tbx tb m k hk hwf hm).weak fun _ W h => ⟨h.1, fun h0 => ⟨h.2.1, h.2.2.1, h.2.2.2 h0⟩⟩

/-- The rows that are only read. -/
structure AmRw (w : World) (x : Nat) (y : Int) (va : Value) (ax bx tb rb pbx tbx px : Nat) (py : Int) (V : World) : Prop where
  wp : V.heap[w.heap.size]? = some (.cells #[.int .u32 (x : Int), .int .i64 y] 31)
  am : V.heap[w.heap.size + 1]? = some (.cells #[va] 42)
  rs : V.heap[w.heap.size + 2]? = some (.cells #[.bool false] 4)
  ra : V.heap[ax]? = some (.cells #[.pointer (some ⟨tb, 0, none⟩)] 24)
  rr : V.heap[bx]? = some (.cells #[.pointer (some ⟨rb, 0, none⟩)] 66)
  pb : V.heap[pbx]? = some (.cells #[.int .u32 (px : Int), .int .i64 py] 31)
  tx : V.heap[tbx]? = some (.cells #[.pointer (some ⟨tb, 0, none⟩)] 24)

theorem AmRw.keep {w : World} {x : Nat} {y : Int} {va : Value} {ax bx tb rb pbx tbx px : Nat} {py : Int} {V V' : World} (h : AmRw w x y va ax bx tb rb pbx tbx px py V)
    (hk : ∀ (b : Nat) (cs : Array Value) (t : TypeId), V.heap[b]? = some (.cells cs t) → t ≠ 3 → t ≠ 50 ∧ t ≠ 92 ∧ t ≠ 77 → V'.heap[b]? = some (.cells cs t)) : AmRw w x y va ax bx tb rb pbx tbx px py V' :=
  ⟨hk _ _ _ h.wp (by decide) (by decide), hk _ _ _ h.am (by decide) (by decide), hk _ _ _ h.rs (by decide) (by decide), hk _ _ _ h.ra (by decide) (by decide), hk _ _ _ h.rr (by decide) (by decide), hk _ _ _ h.pb (by decide) (by decide), hk _ _ _ h.tx (by decide) (by decide)⟩

section
variable {w : World} {x : Nat} {y : Int} {va : Value} {ax bx tb rb pbx tbx px : Nat} {py : Int} {V V' : World}
theorem AmRw.below (h : AmRw w x y va ax bx tb rb pbx tbx px py V) (hb : Below V.heap.size V V') : AmRw w x y va ax bx tb rb pbx tbx px py V' := h.keep fun _ _ _ hb' _ _ => below_keeps hb hb' (Array.getElem?_eq_some_iff.1 hb').1
theorem AmRw.fr {P : Nat → Prop} (h : AmRw w x y va ax bx tb rb pbx tbx px py V) (hf : Fr P V V') : AmRw w x y va ax bx tb rb pbx tbx px py V' := h.keep fun _ _ _ hb' _ ht => hf.cells hb' ht
theorem AmRw.ami {U : World} {X P : Nat → Prop} {nb : Nat} {m : MT} {i : Nat} {c0 : Array Value} (h : AmRw w x y va ax bx tb rb pbx tbx px py U) (hn : U.heap[nb]? = some (.cells c0 3)) (hi : AmI w U X P tb rb nb m i V) : AmRw w x y va ax bx tb rb pbx tbx px py V := h.keep fun _ _ _ hb' h1 ht => hi.cells hb' (kinds_ne hb' hn h1) ht
end

theorem want_within {X : Nat → Prop} {V : World} {tb rb x : Nat} {y : Int} {v : Value} {t : Tr} {L : List (K × Int)} (hd : DX.Duo X V tb rb v t L) (hx : x < 4294967296) :
    Calls Try.prog 31 #[.pointer (some ⟨rb, 0, none⟩), qv x y] V fun e V' => (∃ v', e = .returned v' ∧ OwnE V' V.heap.size v' (entsIn (ents t) x y)) ∧ Below V.heap.size V V' := by
  have hE : L = ents t := Same.eq hd.same hd.ris hd.tr.wf
  rcases bad_or (y := y) hx with hb | ⟨q, hq, rfl, rfl⟩
  · refine (withinR_bad V hx hb).mono ?_
    rintro _ w6 ⟨rfl, hb6⟩
    refine ⟨⟨_, rfl, ?_⟩, hb6⟩
    unfold entsIn
    rw [valB_bad hb]
    exact World.ownsRow_nil _ _ _ _
  · refine (withinR_ok q V hd.ref hq hd.len).mono ?_
    rintro _ w6 ⟨⟨v', rfl, ho⟩, hb6⟩
    refine ⟨⟨_, rfl, ?_⟩, hb6⟩
    unfold entsIn
    rw [valB_ok hq, ← hE]
    exact ho

theorem want_all {X : Nat → Prop} {V V1 : World} {tb rb : Nat} {v : Value} {t : Tr} {L : List (K × Int)} (hd : DX.Duo X V tb rb v t L) (hb : Below V.heap.size V V1) :
    Calls Try.prog 32 #[.pointer (some ⟨rb, 0, none⟩)] V1 fun e V' => (∃ v', e = .returned v' ∧ OwnE V' V.heap.size v' (entsIn (ents t) 0 0)) ∧ Below V1.heap.size V1 V' := by
  have hE : L = ents t := Same.eq hd.same hd.ris hd.tr.wf
  refine (allR_any V1 (hd.ref.below hb) hd.len).mono ?_
  rintro _ w6 ⟨⟨v', rfl, ho⟩, hb6⟩
  refine ⟨⟨_, rfl, ?_⟩, hb6⟩
  rw [entsIn_all hd.tr.wf, ← hE]
  exact ho.base hb.size

theorem entsIn_len (L : List (K × Int)) (x : Nat) (y : Int) : (entsIn L x y).length ≤ L.length := by
  unfold entsIn
  split
  · exact List.length_filter_le _ _
  · simp

/-- A range begins: the world U behind the list that is wanted and n's box. -/
theorem ami_begin {w V U : World} {X P : Nat → Prop} {tb rb nb : Nat} {vw : Value} {E : List (K × Int)} {v : Value} {t : Tr} {L : List (K × Int)} {m : MT} (hA : AmD w X P tb rb V) (hX : X tb) (hd : DX.Duo X V tb rb v t L) (hr : V.heap[tb]? = some (.cells #[m.ptr] 50)) (hl : Lies V X m)
    (hb : Below V.heap.size V U) (hnb : V.heap.size ≤ nb) (hn : U.heap[nb]? = some (.cells #[.int .i64 ((0 : Nat) : Int)] 3)) (ho : OwnE U V.heap.size vw E) :
    AmI w U (fun b => b = tb ∨ b = nb) (fun b => vw.ownBlock = some b) tb rb nb m 0 U ∧ ∀ b, vw.ownBlock = some b → b < U.heap.size ∧ b ≠ tb ∧ b ≠ rb := by
  have hlt := (Array.getElem?_eq_some_iff.1 hn).1
  have htb := (Array.getElem?_eq_some_iff.1 hr).1
  have hrb := (Array.getElem?_eq_some_iff.1 hd.ref.1).1
  refine ⟨⟨hA.again hnb hb hlt hX (fun v' t' L' hd' _ b hb' hb2 => ?_), Nat.le_refl _, fun _ _ h _ _ => h, (lies_new (lies_anti (Y := fun b => b = tb) (fun b e => e ▸ hX) hl) hnb).below hb, hn, fun _ => below_keeps hb hr htb⟩, fun b hb' => ?_⟩
  · have h1 := (hd'.ref.2.1.lt b hb').2
    have h2 := (ho.lt b hb2).1
    omega
  · have h2 := ho.lt b hb'
    exact ⟨h2.2, by omega, by omega⟩
end Go.Proofs.Ytmnafocmbcgdiab

/-
  TrieAmid: amidst's walk.
-/
namespace Go.Proofs.Ytmnafocmbcgdiab
open Go.ChangeShapes Go.WideShapes Go.ChangeAt Go.RowKit Go.Shelf Tri N
attribute [local go_sem] Oper.semAt_some
set_option maxHeartbeats 32000000
set_option maxRecDepth 100000

theorem drewB (w : World) : Below w.heap.size w w.drew := ⟨rfl, rfl, rfl, Nat.le_refl _, fun _ _ => rfl⟩

theorem amidst_any (all : Bool) (v0 v3 : Value) (Os As : List O) (x : Nat) (y : Int) (w : World) (hs0 : SeesO w v0 Os) (hk0 : ∀ o ∈ Os, o.Ok) (hs3 : SeesO w v3 As) (hk3 : ∀ o ∈ As, o.Ok) (hx : x < 4294967296) :
    Calls Try.prog 18 #[v0, .bool all, .agg #[.int .u32 (x : Int), .int .i64 y], v3] w fun e w' => e = .returned (.bool true) ∧ Below w.heap.size w w' := by
  obtain ⟨ao, no, co, rfl, HNO, hno1, hno2⟩ := hs0.shape
  obtain ⟨aa, na, ca, rfl, HNA, hna1, hna2⟩ := hs3.shape
  obtain ⟨w1, HW1⟩ : ∃ w1, Hid (w1 = ((w.alloc (.cells #[.int .u32 (x : Int), .int .i64 y] 31)).alloc (.cells #[.slice aa na ca] 42)).alloc (.cells #[.bool false] 4)) := ⟨_, rfl⟩
  have hb1 : Below w.heap.size w w1 := by rw [HW1.out]; exact (((Below.refl _ _).alloc (Nat.le_refl _) _).alloc (by simp) _).alloc (by simp; omega) _
  have hs1 : w1.heap.size = w.heap.size + 3 := by rw [HW1.out]; simp
  have r0 : w1.heap[w.heap.size]? = some (.cells #[.int .u32 (x : Int), .int .i64 y] 31) := by
    rw [HW1.out, Below.heap_alloc _ _ _ (by simp <;> omega), Below.heap_alloc _ _ _ (by simp <;> omega)]; exact heap_alloc_new w _
  have r1 : w1.heap[w.heap.size + 1]? = some (.cells #[.slice aa na ca] 42) := by
    have h := heap_alloc_new (w.alloc (.cells #[.int .u32 (x : Int), .int .i64 y] 31)) (.cells #[.slice aa na ca] 42)
    rw [World.size_alloc] at h
    rw [HW1.out, Below.heap_alloc _ _ _ (by simp <;> omega)]; exact h
  have r2 : w1.heap[w.heap.size + 2]? = some (.cells #[.bool false] 4) := by
    have h := heap_alloc_new ((w.alloc (.cells #[.int .u32 (x : Int), .int .i64 y] 31)).alloc (.cells #[.slice aa na ca] 42)) (.cells #[.bool false] 4)
    rw [World.size_alloc, World.size_alloc] at h
    rw [HW1.out]; exact h
  -- the trie, its box, the reference's, its box
  obtain ⟨tb, HTB⟩ : ∃ tb, Hid (tb = w1.heap.size) := ⟨_, rfl⟩
  have HN1 := hid (new_any w1)
  obtain ⟨w2, HW2⟩ : ∃ w2, Hid (w2 = w1.alloc (.cells #[.pointer none] 50)) := ⟨_, rfl⟩
  rw [← HW2.out, ← HTB.out] at HN1
  have hs2 : w2.heap.size = tb + 1 := by rw [HW2.out, HTB.out]; simp
  obtain ⟨w3, HW3⟩ : ∃ w3, Hid (w3 = w2.alloc (.cells #[.pointer (some ⟨tb, 0, none⟩)] 24)) := ⟨_, rfl⟩
  have hs3' : w3.heap.size = tb + 2 := by rw [HW3.out]; simp; omega
  have HN2 := hid (newR_any w3)
  obtain ⟨w4, HW4⟩ : ∃ w4, Hid (w4 = w3.alloc (.cells #[.slice none 0 0] 92)) := ⟨_, rfl⟩
  rw [← HW4.out, hs3'] at HN2
  obtain ⟨rb, HRB⟩ : ∃ rb, Hid (rb = tb + 2) := ⟨_, rfl⟩
  rw [← HRB.out] at HN2
  have hs4 : w4.heap.size = rb + 1 := by rw [HW4.out]; simp; have := HRB.out; omega
  obtain ⟨w5, HW5⟩ : ∃ w5, Hid (w5 = w4.alloc (.cells #[.pointer (some ⟨rb, 0, none⟩)] 66)) := ⟨_, rfl⟩
  obtain ⟨ax, HAX⟩ : ∃ ax, Hid (ax = tb + 1) := ⟨_, rfl⟩
  obtain ⟨bx, HBX⟩ : ∃ bx, Hid (bx = rb + 1) := ⟨_, rfl⟩
  have hb2 : Below w1.heap.size w1 w2 := by rw [HW2.out]; exact (Below.refl _ _).alloc (Nat.le_refl _) _
  have hb3 : Below w2.heap.size w2 w3 := by rw [HW3.out]; exact (Below.refl _ _).alloc (Nat.le_refl _) _
  have hb4 : Below w3.heap.size w3 w4 := by rw [HW4.out]; exact (Below.refl _ _).alloc (Nat.le_refl _) _
  have hb5 : Below w4.heap.size w4 w5 := by rw [HW5.out]; exact (Below.refl _ _).alloc (Nat.le_refl _) _
  have hb25 : Below w2.heap.size w2 w5 := (hb3.trans (hb4.mono hb3.size)).trans (hb5.mono (Nat.le_trans hb3.size hb4.size))
  have hb15 : Below w1.heap.size w1 w5 := hb2.trans (hb25.mono hb2.size)
  have HA5 : Hid (AmD w (fun b => b = tb) (fun _ => False) tb rb w5) := by
    have h1 := HTB.out
    have h2 := HRB.out
    refine ⟨hb1.trans (hb15.mono hb1.size), ⟨by omega, by omega⟩, .slice none 0 0, .nil, [], ⟨?_, ?_, ?_, Ris.nil⟩, fun b hb => by cases hb⟩
    · have ht : TrieAt w2 (fun b => b = tb) tb .nil := by rw [HW2.out, h1]; exact trie_new w1
      exact ht.grow hb25
    · have hr : RefAt w4 rb (.slice none 0 0) [] := by
        have h := ref_new w3
        rw [hs3', ← h2, ← HW4.out] at h
        exact h
      exact hr.below hb5
    · exact Same.nil
  have HR5 : Hid (w5.heap[w.heap.size]? = some (.cells #[.int .u32 (x : Int), .int .i64 y] 31) ∧ w5.heap[w.heap.size + 1]? = some (.cells #[.slice aa na ca] 42) ∧ w5.heap[w.heap.size + 2]? = some (.cells #[.bool false] 4) ∧ w5.heap[ax]? = some (.cells #[.pointer (some ⟨tb, 0, none⟩)] 24) ∧ w5.heap[bx]? = some (.cells #[.pointer (some ⟨rb, 0, none⟩)] 66)) := by
    refine ⟨below_keeps hb15 r0 (by omega), below_keeps hb15 r1 (by omega), below_keeps hb15 r2 (by omega), ?_, ?_⟩
    · have h : w3.heap[ax]? = some (.cells #[.pointer (some ⟨tb, 0, none⟩)] 24) := by
        have h := heap_alloc_new w2 (.cells #[.pointer (some ⟨tb, 0, none⟩)] 24)
        rw [hs2, ← HAX.out, ← HW3.out] at h
        exact h
      have hlt := (Array.getElem?_eq_some_iff.1 h).1
      exact below_keeps hb5 (below_keeps hb4 h hlt) (by have := hb4.size; omega)
    · have h := heap_alloc_new w4 (.cells #[.pointer (some ⟨rb, 0, none⟩)] 66)
      rw [hs4, ← HBX.out, ← HW5.out] at h
      exact h
  have a5 : w5.cell? ⟨ax, 0, none⟩ = some (.pointer (some ⟨tb, 0, none⟩)) := by rw [cell_of_row _ _ _ _ _ _ HR5.out.2.2.2.1]; rfl
  have HBG := hid (begun_any w5)
  have HS0 := hid hs0
  have HS3 := hid hs3
  have HK0 := hid hk0
  have HK3 := hid hk3
  have HX := hid hx
  have e2 : w2.heap.size = ax := by rw [hs2, HAX.out]
  have e4 : w4.heap.size = bx := by rw [hs4, HBX.out]
  have E2 := hid e2
  have E4 := hid e4
  unfold maxLen at hno2 hna2
  clear hb1 hs1 r0 r1 r2 hs2 hs3' hs4 hb2 hb3 hb4 hb5 hb25 hb15 hs0 hs3 hk0 hk3 hx e2 e4
  refine (callsIn_wide (n := 9)).1 ?_
  refine callsIn_of_wp_marks Try.func18 rfl trivial ?_ rfl
  refine wpIn_wide.2 ?_
  simp only [Try.ntmps18, List.size_toArray, List.length_cons, List.length_nil, Nat.reduceAdd, Nat.reduceSub, Array.replicate_succ, Array.replicate_zero, List.push_toArray, List.append_toArray, List.nil_append, List.cons_append]
  go_upto_region 1 with fail
  rw [← HW1.out]
  go_wp2_with fail
  refine HN1.out.mono ?_
  rintro _ _ ⟨rfl, ew⟩
  obtain rfl := ew.symm
  go_upto_region 2 with fail
  rw [← HW3.out, E2.out]
  go_wp2_with fail
  refine HN2.out.mono ?_
  rintro _ _ ⟨rfl, ew2⟩
  obtain rfl := ew2.symm
  go_upto_region 3 with fail
  rw [← HW5.out, E4.out]
  clear HN1 HN2 ew ew2
  go_wp2_with fail
  refine HBG.out.mono ?_
  rintro _ w6 ⟨rfl, hb6⟩
  have HA6 := hid (HA5.out.below hb6)
  obtain ⟨q0, q1, q2, q3, q4⟩ := HR5.out
  have k0 := below_keeps hb6 q0 (Array.getElem?_eq_some_iff.1 q0).1
  have k1 := below_keeps hb6 q1 (Array.getElem?_eq_some_iff.1 q1).1
  have k2 := below_keeps hb6 q2 (Array.getElem?_eq_some_iff.1 q2).1
  have k3 := below_keeps hb6 q3 (Array.getElem?_eq_some_iff.1 q3).1
  have k4 := below_keeps hb6 q4 (Array.getElem?_eq_some_iff.1 q4).1
  have a6 : w6.cell? ⟨ax, 0, none⟩ = some (.pointer (some ⟨tb, 0, none⟩)) := by rw [cell_of_row _ _ _ _ _ _ k3]; rfl
  have p0 : w6.cell? ⟨w.heap.size, 0, none⟩ = some (.int .u32 (x : Int)) := by rw [cell_of_row _ _ _ _ _ _ k0]; rfl
  have p1 : w6.cell? ⟨w.heap.size, 1, none⟩ = some (.int .i64 y) := by rw [cell_of_row _ _ _ _ _ _ k0]; rfl
  have HWN := hid (within_new (tb := tb) (x := x) (y := y) w6)
  unfold qv at HWN
  obtain ⟨w7, HW7⟩ : ∃ w7, Hid (w7 = (w6.alloc (.cells #[.pointer (some ⟨tb, 0, none⟩)] 24)).alloc (.cells #[.int .u32 (x : Int), .int .i64 y] 31)) := ⟨_, rfl⟩
  rw [← HW7.out] at HWN
  have hb7 : Below w6.heap.size w6 w7 := by rw [HW7.out]; exact ((Below.refl _ _).alloc (Nat.le_refl _) _).alloc (by simp) _
  have t7 : w7.heap[w6.heap.size]? = some (.cells #[.pointer (some ⟨tb, 0, none⟩)] 24) := by rw [HW7.out, Below.heap_alloc _ _ _ (by simp)]; exact heap_alloc_new w6 _
  have p7 : w7.heap[w6.heap.size + 1]? = some (.cells #[.int .u32 (x : Int), .int .i64 y] 31) := by
    have h := heap_alloc_new (w6.alloc (.cells #[.pointer (some ⟨tb, 0, none⟩)] 24)) (.cells #[.int .u32 (x : Int), .int .i64 y] 31)
    rw [World.size_alloc] at h
    rw [HW7.out]; exact h
  have HRW7 : Hid (AmRw w x y (.slice aa na ca) ax bx tb rb (w6.heap.size + 1) w6.heap.size x y w7) :=
    ⟨below_keeps hb7 k0 (Array.getElem?_eq_some_iff.1 k0).1, below_keeps hb7 k1 (Array.getElem?_eq_some_iff.1 k1).1, below_keeps hb7 k2 (Array.getElem?_eq_some_iff.1 k2).1, below_keeps hb7 k3 (Array.getElem?_eq_some_iff.1 k3).1, below_keeps hb7 k4 (Array.getElem?_eq_some_iff.1 k4).1, p7, t7⟩
  have HA7 := hid (HA6.out.below hb7)
  clear q0 q1 q2 q3 q4 k0 k1 k2 k3 k4 hb6 hb7 t7 p7 HR5 HBG a5
  go_wp2_with fail
  refine HWN.out.mono ?_
  rintro _ _ ⟨rfl, ew⟩
  obtain rfl := ew.symm
  clear a6 p0 p1 HWN ew
  go_upto_if 31 with fail
  go_cut [11] from 20 (fun sq V => ∃ (pbx tbx px : Nat) (py : Int), sq = .func (.func 41) #[] #[.pointer (some ⟨pbx, 0, none⟩), .pointer (some ⟨tbx, 0, none⟩)] ∧ Hid (px = (if all then 0 else x) ∧ py = (if all then 0 else y)) ∧ Hid (AmRw w x y (.slice aa na ca) ax bx tb rb pbx tbx px py V) ∧ Hid (AmD w (fun b => b = tb) (fun _ => False) tb rb V))
  case first =>
    cases all with
    | false =>
      go_wp2_with fail
      go_meet
      case rel => exact ⟨_, _, x, y, rfl, ⟨rfl, rfl⟩, HRW7, HA7⟩
    | true =>
      have a7 : w7.cell? ⟨ax, 0, none⟩ = some (.pointer (some ⟨tb, 0, none⟩)) := by rw [cell_of_row _ _ _ _ _ _ HRW7.out.ra]; rfl
      have HAN := hid (all_new (tb := tb) w7)
      obtain ⟨w8, HW8⟩ : ∃ w8, Hid (w8 = (w7.alloc (.cells #[.pointer (some ⟨tb, 0, none⟩)] 24)).alloc (.cells #[.int .u32 ((0 : Nat) : Int), .int .i64 0] 31)) := ⟨_, rfl⟩
      rw [← HW8.out] at HAN
      have hb8 : Below w7.heap.size w7 w8 := by rw [HW8.out]; exact ((Below.refl _ _).alloc (Nat.le_refl _) _).alloc (by simp) _
      have t8 : w8.heap[w7.heap.size]? = some (.cells #[.pointer (some ⟨tb, 0, none⟩)] 24) := by rw [HW8.out, Below.heap_alloc _ _ _ (by simp)]; exact heap_alloc_new w7 _
      have p8 : w8.heap[w7.heap.size + 1]? = some (.cells #[.int .u32 ((0 : Nat) : Int), .int .i64 0] 31) := by
        have h := heap_alloc_new (w7.alloc (.cells #[.pointer (some ⟨tb, 0, none⟩)] 24)) (.cells #[.int .u32 ((0 : Nat) : Int), .int .i64 0] 31)
        rw [World.size_alloc] at h
        rw [HW8.out]; exact h
      have HRW8 : Hid (AmRw w x y (.slice aa na ca) ax bx tb rb (w7.heap.size + 1) w7.heap.size 0 0 w8) := by
        have h := HRW7.out.below hb8
        exact ⟨h.wp, h.am, h.rs, h.ra, h.rr, p8, t8⟩
      have HA8 := hid (HA7.out.below hb8)
      clear hb8 t8 p8
      go_wp2_with fail
      refine HAN.out.mono ?_
      rintro _ _ ⟨rfl, ew⟩
      obtain rfl := ew.symm
      clear a7 HAN ew
      go_wp2_with fail
      go_meet
      case rel => exact ⟨_, _, 0, 0, rfl, ⟨rfl, rfl⟩, HRW8, HA8⟩
  case rest =>
    obtain ⟨pbx, tbx, px, py, rfl, HPP, HRW, HAM⟩ := hcut
    obtain ⟨w9, hw9⟩ : ∃ w9, w9 = wc := ⟨_, rfl⟩
    rw [← hw9] at HRW HAM ⊢
    clear hw9 HRW7 HA7
    go_upto_region 9 with fail
    go_loopw [12] (fun i wr => ∃ (j : Nat), i = .int .i64 (j : Int) ∧ j ≤ no ∧ Hid (AmD w (fun b => b = tb) (fun _ => False) tb rb wr) ∧ Hid (AmRw w x y (.slice aa na ca) ax bx tb rb pbx tbx px py wr)) (fun i _ => no - (intOf i).toNat)
    case atStart => exact ⟨0, rfl, by omega, HAM, HRW⟩
    case round =>
      obtain ⟨j, rfl, hj, HA, HR⟩ := hrel
      by_cases hjn : j < no
      · obtain ⟨g, off, p, hao, hg, c0, c1, c2, c3, c4, c5, hmem⟩ := (HS0.out.below HA.out.bel).at j hjn
        subst hao
        have hok : p.Ok := HK0.out p hmem
        have b1 : (j : Int) < (no : Int) := by omega
        have b2 : (0 : Int) ≤ (j : Int) := by omega
        have b3 : decide ((j : Int) < 0) = false := by simp
        have y0 : wr.cell? ⟨ax, 0, none⟩ = some (.pointer (some ⟨tb, 0, none⟩)) := by rw [cell_of_row _ _ _ _ _ _ HR.out.ra]; rfl
        have y1 : wr.cell? ⟨bx, 0, none⟩ = some (.pointer (some ⟨rb, 0, none⟩)) := by rw [cell_of_row _ _ _ _ _ _ HR.out.rr]; rfl
        by_cases hk1 : p.k = 1
        · have hkk : p.k = 1 := hk1
          rw [hkk] at c0
          have HPL := hid ((HA.out.below (drewB wr)).play (P := fun _ => False) (s := p.s) (y := p.y) (a := p.a) (fun b hb => hb.elim) (k := 1) (by omega) hok.1 hok.2.1)
          unfold oCells at HPL
          clear hk1 hkk hok hmem hg
          go_upto_region 12 with fail
          refine wp_region_still_tail 6 (by kernel_rfl) (by kernel_rfl) ?_
          simp only [List.take_succ_cons, List.take_zero, List.drop_succ_cons, List.drop_zero]
          iterate 6 still_step
          refine wpStill_nil ?_
          go_wp2_with fail
          refine HPL.out.mono ?_
          rintro _ w7 ⟨rfl, hA7, hF7, _⟩
          have HA7 := hid hA7
          have HR7 := hid ((HR.out.below (drewB wr)).fr hF7)
          clear hA7 hF7 c0 c1 c2 c3 c4 c5 y0 y1
          go_wp2_with fail
          go_roundw
          case rel => exact ⟨j + 1, by go_num, by omega, HA7, HR7⟩
          case measure => simp [intOf]; omega
        · by_cases hk2 : p.k = 2
          · have hkk : p.k = 2 := hk2
            rw [hkk] at c0
            have HPL := hid ((HA.out.below (drewB wr)).play (P := fun _ => False) (s := p.s) (y := p.y) (a := p.a) (fun b hb => hb.elim) (k := 2) (by omega) hok.1 hok.2.1)
            unfold oCells at HPL
            clear hk2 hkk hok hmem hg
            go_upto_region 12 with fail
            refine wp_region_still_tail 6 (by kernel_rfl) (by kernel_rfl) ?_
            simp only [List.take_succ_cons, List.take_zero, List.drop_succ_cons, List.drop_zero]
            iterate 6 still_step
            refine wpStill_nil ?_
            go_wp2_with fail
            refine HPL.out.mono ?_
            rintro _ w7 ⟨rfl, hA7, hF7, _⟩
            have HA7 := hid hA7
            have HR7 := hid ((HR.out.below (drewB wr)).fr hF7)
            clear hA7 hF7 c0 c1 c2 c3 c4 c5 y0 y1
            go_wp2_with fail
            go_roundw
            case rel => exact ⟨j + 1, by go_num, by omega, HA7, HR7⟩
            case measure => simp [intOf]; omega
          · have z1 : ¬ p.k = 1 := hk1
            have z2 : ¬ p.k = 2 := hk2
            have z3 : (p.k == 1) = false := by simp [hk1]
            have z4 : (p.k == 2) = false := by simp [hk2]
            clear hok hmem hg
            go_wp2_with fail
            go_roundw
            case rel => exact ⟨j + 1, by go_num, by omega, HA, HR⟩
            case measure => simp [intOf]; omega
      · have b1 : ¬ (j : Int) < (no : Int) := by omega
        have hqf := eq_seq 41 #[] #[.pointer (some ⟨pbx, 0, none⟩), .pointer (some ⟨tbx, 0, none⟩)]
        have HPX : Hid (px < 4294967296) := by
          have h := HPP.out.1
          have h2 := HX.out
          unfold Hid
          rw [h]
          split <;> omega
        obtain ⟨V0, hV0⟩ : ∃ V0, V0 = wr := ⟨_, rfl⟩
        subst hV0
        clear hjn hj HAM HRW HA5 HA6 HS0 HK0
        go_upto_region 16 with fail
        clear hqf
        refine wp_loop_rounds 4 ?_
        rw [rounds_succ]
        have HA0 := HA
        have HR0 := HR
        clear HA HR

        obtain ⟨v0, t0, L0, hd, hv⟩ := HA0.out.duo
        obtain ⟨m0, hrow, hmt, hLi⟩ := hd.tr.tree
        subst hmt
        have HROW0 := hid hrow
        have HLI0 := hid hLi
        have HDU0 := hid hd
        have HWF0 := hid hd.tr.wf
        have HNM0 : Hid (nodes m0.tr ≤ 10000000000) := by
          have h := WF_nodes hd.tr.wf
          rw [show top.x = 0 from rfl, top_s] at h
          unfold Hid; omega
        obtain ⟨E0, HE0⟩ : ∃ E, Hid (E = entsIn (ents m0.tr) px py) := ⟨_, rfl⟩
        have HEL0 : Hid (E0.length ≤ 10000000000) := by
          have h1 := entsIn_len (ents m0.tr) px py
          have h2 := ents_nodes m0.tr
          have h3 := HNM0.out
          unfold Hid; rw [HE0.out]; omega
        have y1 : V0.cell? ⟨bx, 0, none⟩ = some (.pointer (some ⟨rb, 0, none⟩)) := by rw [cell_of_row _ _ _ _ _ _ HR0.out.rr]; rfl
        have p0 : V0.cell? ⟨w.heap.size, 0, none⟩ = some (.int .u32 (x : Int)) := by rw [cell_of_row _ _ _ _ _ _ HR0.out.wp]; rfl
        have p1 : V0.cell? ⟨w.heap.size, 1, none⟩ = some (.int .i64 y) := by rw [cell_of_row _ _ _ _ _ _ HR0.out.wp]; rfl
        have HWT := hid (want_within (y := y) hd HX.out)
        unfold qv at HWT
        clear hd hv hrow hLi
        go_wp2_with fail
        refine HWT.out.mono ?_
        rintro _ V1 ⟨⟨vw1, rfl, ho1⟩, hb1⟩
        obtain ⟨aw, nw, cw, rfl, _, _, _⟩ := ho1.shape
        obtain ⟨V2, HV2⟩ : ∃ V2, Hid (V2 = V1.alloc (.cells #[.slice aw nw cw] 73)) := ⟨_, rfl⟩
        have hb12 : Below V1.heap.size V1 V2 := by rw [HV2.out]; exact (Below.refl _ _).alloc (Nat.le_refl _) _
        obtain ⟨bw0, HBW0⟩ : ∃ bw, Hid (bw = V1.heap.size) := ⟨_, rfl⟩
        have rw2 : V2.heap[bw0]? = some (.cells #[.slice aw nw cw] 73) := by rw [HV2.out, HBW0.out]; exact heap_alloc_new V1 _
        have HB2 : Hid (Below V0.heap.size V0 V2) := hb1.trans (hb12.mono hb1.size)
        have HRW2 := hid rw2
        have HO2 := hid (ho1.below hb12)
        have HGE : Hid (V0.heap.size ≤ bw0) := by unfold Hid; rw [HBW0.out]; exact hb1.size
        clear ho1 hb1 hb12 rw2 y1 p0 p1 HWT
        go_upto_if 70 with fail
        rw [← HV2.out, ← HBW0.out]
        go_cut [] from 63 (fun Vc => ∃ (a : Option Addr) (n c : Nat), Hid (Vc.heap[bw0]? = some (.cells #[.slice a n c] 73)) ∧ Hid (OwnE Vc V0.heap.size (.slice a n c) E0) ∧ Hid (Below V0.heap.size V0 Vc))
        case first =>
          cases all with
          | false =>
            have HOE : Hid (OwnE V2 V0.heap.size (.slice aw nw cw) E0) := by
              unfold Hid
              rw [HE0.out, HPP.out.1, HPP.out.2]
              exact HO2.out
            go_wp2_with fail
            go_meet
            case rel => exact ⟨aw, nw, cw, HRW2, HOE, HB2⟩
          | true =>
            have hr2 := HR0.out.below HB2.out
            have y1 : V2.cell? ⟨bx, 0, none⟩ = some (.pointer (some ⟨rb, 0, none⟩)) := by rw [cell_of_row _ _ _ _ _ _ hr2.rr]; rfl
            have HAL := hid (want_all HDU0.out HB2.out)
            clear hr2
            go_wp2_with fail
            refine HAL.out.mono ?_
            rintro _ V3 ⟨⟨vw3, rfl, ho3⟩, hb3⟩
            obtain ⟨a3, n3, c3, rfl, _, _, _⟩ := ho3.shape
            have rw3 := below_keeps hb3 HRW2.out (Array.getElem?_eq_some_iff.1 HRW2.out).1
            have s0 : V3.cell? ⟨bw0, 0, none⟩ = some (.slice aw nw cw) := by rw [cell_of_row _ _ _ _ _ _ rw3]; rfl
            have sf : V3.frozen? ⟨bw0, 0, none⟩ = false := frozen_of_row _ _ _ _ _ rw3
            obtain ⟨V4, HV4⟩ : ∃ V4, Hid (V4 = V3.setCell ⟨bw0, 0, none⟩ (.slice a3 n3 c3)) := ⟨_, rfl⟩
            have bt : But bw0 V3 V4 := by rw [HV4.out]; exact But.set _ _ _ _
            have HR4 : Hid (V4.heap[bw0]? = some (.cells #[.slice a3 n3 c3] 73)) := by rw [HV4.out]; exact set_row rw3
            have hb03 : Below V0.heap.size V0 V3 := HB2.out.trans (hb3.mono HB2.out.size)
            have HB4 : Hid (Below V0.heap.size V0 V4) := bt.below hb03 hb03.size HGE.out
            have HO4 : Hid (OwnE V4 V0.heap.size (.slice a3 n3 c3) E0) := by
              unfold Hid
              rw [HE0.out, HPP.out.1, HPP.out.2]
              refine ho3.chg (Z := fun b => b = bw0) (fun b hb e => ?_) (Chg.of_but bt rfl)
              obtain ⟨cs, hk⟩ := ho3.kind hb
              exact kinds_ne hk rw3 (by decide) e
            clear ho3 hb3 rw3 bt hb03 y1 HAL
            go_wp2_with fail
            rw [← HV4.out]
            go_meet
            case rel => exact ⟨a3, n3, c3, HR4, HO4, HB4⟩
        case rest =>
          obtain ⟨aE0, nE0, cE0, HRB0, HOE0, HBV0⟩ := hcut
          obtain ⟨Vc0, hVc⟩ : ∃ Vc, Vc = wc := ⟨_, rfl⟩
          rw [← hVc] at HRB0 HOE0 HBV0 ⊢
          clear hVc HB2 HRW2 HO2
          obtain ⟨U0, HU0⟩ : ∃ U, Hid (U = Vc0.alloc (.cells #[.int .i64 0] 3)) := ⟨_, rfl⟩
          have hbU : Below Vc0.heap.size Vc0 U0 := by rw [HU0.out]; exact (Below.refl _ _).alloc (Nat.le_refl _) _
          obtain ⟨nb0, HNB0⟩ : ∃ nb, Hid (nb = Vc0.heap.size) := ⟨_, rfl⟩
          have HNU0 : Hid (U0.heap[nb0]? = some (.cells #[.int .i64 ((0 : Nat) : Int)] 3)) := by unfold Hid; rw [HU0.out, HNB0.out]; exact heap_alloc_new Vc0 _
          have hbVU : Below V0.heap.size V0 U0 := HBV0.out.trans (hbU.mono HBV0.out.size)
          have hoU : OwnE U0 V0.heap.size (.slice aE0 nE0 cE0) E0 := HOE0.out.below hbU
          obtain ⟨hI0, hPW⟩ := ami_begin HA0.out rfl HDU0.out HROW0.out HLI0.out hbVU (by rw [HNB0.out]; exact HBV0.out.size) HNU0.out hoU
          have HI00 := hid hI0
          have HPU0 := hid hPW
          have HOU0 := hid hoU
          have HRU0 := hid (HR0.out.below hbVU)
          have HBU0 : Hid (U0.heap[bw0]? = some (.cells #[.slice aE0 nE0 cE0] 73)) := below_keeps hbU HRB0.out (Array.getElem?_eq_some_iff.1 HRB0.out).1
          have HLO0 : Hid (w.heap.size ≤ nb0) := by
            unfold Hid; rw [HNB0.out]; exact Nat.le_trans HA0.out.bel.size HBV0.out.size
          have HSZ0 : Hid (w.heap.size + 2 < U0.heap.size ∧ tb < U0.heap.size) := ⟨(Array.getElem?_eq_some_iff.1 HRU0.out.rs).1, Nat.lt_of_lt_of_le (Array.getElem?_eq_some_iff.1 HROW0.out).1 hbVU.size⟩
          have HNE0 : Hid (nE0 = E0.length) := by
            have h := hoU.shape
            obtain ⟨a', n', c', h1, h2, _, _⟩ := h
            simp at h1
            unfold Hid; rw [h1.2.1]; exact h2.out
          have HSQG0 := hid (amid_gives 8 (by omega) (fun b => b = tb ∨ b = nb0) pbx tbx tb px py m0 HPX.out HWF0.out HNM0.out)
          rw [← HE0.out] at HSQG0
          clear hbU hbVU hoU hI0 hPW
          go_upto_region 22 with fail
          rw [← HU0.out, ← HNB0.out]
          go_wp2_with fail
          refine wpIn_wide.1 (wpIn_givesU (β := Nat) (n := 9) (F := Fence.wide) rfl (by omega) (gf := 41) (lb := #[.pointer (some ⟨pbx, 0, none⟩), .pointer (some ⟨tbx, 0, none⟩)]) rfl trivial (enters_of Try.func41 (by kernel_rfl) rfl)
            HSQG0.out (fun _ => rfl) (fun i V => AmI w U0 (fun b => b = tb ∨ b = nb0) (fun b => (Value.slice aE0 nE0 cE0).ownBlock = some b) tb rb nb0 m0 i V) (fun _ _ => False) ?hI0 ?hIx0 ?hF0 ?h00
            (fun e b tt => (((tt.setIfInBounds 74 (pv e.1)).setIfInBounds 75 (.int .i64 e.2)).setIfInBounds 16 (.pointer (some ⟨b, 0, none⟩))).setIfInBounds 17 (.int .i64 e.2)) (fun e b V => U0.heap.size ≤ b ∧ V.heap[b]? = some (.cells #[.int .u32 (e.1.x : Int), .int .i64 (e.1.n : Int)] 31)) ?hAy0 ?assign0 ?body0 ?done0 ?stop0)
          case hI0 => exact AmI.own (Array.getElem?_eq_some_iff.1 HNU0.out).1 HSZ0.out.2 (by have := HSZ0.out.1; omega)
          case hIx0 => exact fun _ _ _ _ h _ _ => h.elim
          case hF0 =>
            intro k V h
            have hrw := HRU0.out.ami HNU0.out h
            exact ⟨h.li, hrw.pb, hrw.tx, h.wi⟩
          case h00 => exact HI00.out
          case hAy0 =>
            rintro e b _ W W' row ⟨h1, h2⟩ hg hr
            refine ⟨h1, (hg.block _ (Array.getElem?_eq_some_iff.1 h2).1 (fun he => ?_)).trans h2⟩
            obtain ⟨_, o, ho, hm⟩ := hr b he.symm
            rw [h2] at ho
            cases ho
            rcases hm with hm | ⟨cs, hm⟩ | ⟨cs, hm⟩
            · cases hm
            · injection hm with _ hm; exact absurd hm (by decide)
            · injection hm with _ hm; exact absurd hm (by decide)
          case assign0 =>
            intro l i e V K hi hx hK
            obtain ⟨V2', HV2'⟩ : ∃ V2', Hid (V2' = V.alloc (.cells #[.int .u32 (e.1.x : Int), .int .i64 (e.1.n : Int)] 31)) := ⟨_, rfl⟩
            have hbV : Below V.heap.size V V2' := by rw [HV2'.out]; exact (Below.refl _ _).alloc (Nat.le_refl _) _
            have hrV : V2'.heap[V.heap.size]? = some (.cells #[.int .u32 (e.1.x : Int), .int .i64 (e.1.n : Int)] 31) := by rw [HV2'.out]; exact heap_alloc_new V _
            have hI2 : AmI w U0 (fun b => b = tb ∨ b = nb0) (fun b => (Value.slice aE0 nE0 cE0).ownBlock = some b) tb rb nb0 m0 i V2' :=
              AmI.own (Array.getElem?_eq_some_iff.1 HNU0.out).1 HSZ0.out.2 (by have := HSZ0.out.1; omega) i V V2' none hi ⟨hbV.os, hbV.tape, hbV.output, hbV.size, fun j hj _ => hbV.block j hj⟩ (fun r e => by cases e)
            have HK := hK V.heap.size V2' (KeepsN.of_below hbV) hI2 ⟨hi.sz, hrV⟩
            unfold pv at HK ⊢
            simp only [List.setIfInBounds_toArray, List.set_cons_zero, List.set_cons_succ] at HK ⊢
            clear hK hi hx hbV hrV hI2
            gi_wp2
            rw [← HV2'.out]
            gi_wp2
            exact HK
          case body0 =>
            rintro l i e b W hl _ hj ⟨j1, j2⟩ hx
            obtain ⟨ek, ev⟩ := e
            simp only at j2
            have hin : i < nE0 := by have h1 := (List.getElem?_eq_some_iff.1 hx).1; have h2 := HNE0.out; omega
            have hrw := HRU0.out.ami HNU0.out hj
            have hbw := hj.cells HBU0.out (kinds_ne HBU0.out HNU0.out (by decide)) (by decide)
            have hen : OwnE W V0.heap.size (.slice aE0 nE0 cE0) E0 := own_keep HOU0.out fun b' o hb' ho => hj.fr b' o ho (by
              obtain ⟨cs, hk⟩ := HOU0.out.kind hb'
              exact kinds_ne hk HNU0.out (by decide)) (.inl hb')
            obtain ⟨g, f, hao, hg, hf, c0, c1, c2⟩ := hen.at i hin
            rw [hx] at hf
            obtain rfl := Option.some.inj hf
            rw [hao] at hbw
            simp only at c0 c1 c2
            have e0 : ∀ t : Beh W, t.wd.cell? ⟨g, i * 3, none⟩ = some (.int .u32 (ek.x : Int)) := fun t => (t.ok.cell (p := ⟨g, _, none⟩) hg).trans c0
            have e1 : ∀ t : Beh W, t.wd.cell? ⟨g, i * 3 + 1, none⟩ = some (.int .i64 (ek.n : Int)) := fun t => (t.ok.cell (p := ⟨g, _, none⟩) hg).trans c1
            have e2 : ∀ t : Beh W, t.wd.cell? ⟨g, i * 3 + 2, none⟩ = some (.int .i64 ev) := fun t => (t.ok.cell (p := ⟨g, _, none⟩) hg).trans c2
            have kc : ∀ t : Beh W, t.wd.cell? ⟨nb0, 0, none⟩ = some (.int .i64 (i : Int)) := fun t => by rw [cell_of_row _ _ _ _ _ _ (below_keeps t.ok hj.nx (Array.getElem?_eq_some_iff.1 hj.nx).1)]; rfl
            have wc' : ∀ t : Beh W, t.wd.cell? ⟨bw0, 0, none⟩ = some (.slice (some ⟨g, 0, none⟩) nE0 cE0) := fun t => by rw [cell_of_row _ _ _ _ _ _ (below_keeps t.ok hbw (Array.getElem?_eq_some_iff.1 hbw).1)]; rfl
            have pc0 : ∀ t : Beh W, t.wd.cell? ⟨b, 0, none⟩ = some (.int .u32 (ek.x : Int)) := fun t => by rw [cell_of_row _ _ _ _ _ _ (below_keeps t.ok j2 (Array.getElem?_eq_some_iff.1 j2).1)]; rfl
            have pc1 : ∀ t : Beh W, t.wd.cell? ⟨b, 1, none⟩ = some (.int .i64 (ek.n : Int)) := fun t => by rw [cell_of_row _ _ _ _ _ _ (below_keeps t.ok j2 (Array.getElem?_eq_some_iff.1 j2).1)]; rfl
            have n1 : (i : Int) < (nE0 : Int) := by omega
            have b2 : (0 : Int) ≤ (i : Int) := by omega
            have b3 : decide ((i : Int) < 0) = false := by simp
            have hi3 : i ≤ 10000000000 := by have h1 := HNE0.out; have h2 := HEL0.out; omega
            have g1 : ¬ ((nE0 : Int) ≤ (i : Int)) := by omega
            have g2 : decide ((nE0 : Int) ≤ (i : Int)) = false := by simp; omega
            have g3 : ¬ (nE0 ≤ i) := by omega
            have g4 : decide (nE0 ≤ i) = false := by simp; omega
            have hq : ∀ u : World, (Op.equalIn 10000 31 (.agg #[.int .u32 (ek.x : Int), .int .i64 (ek.n : Int)]) (.agg #[.int .u32 (ek.x : Int), .int .i64 (ek.n : Int)])).run Try.prog u = .ok true u := fun u => (eqK ek ek u).trans (by simp)
            have HJ := hid hj
            have HRW := hid hrw
            have HPW : Hid (∀ b, (Value.slice aE0 nE0 cE0).ownBlock = some b → b < W.heap.size ∧ b ≠ tb ∧ b ≠ rb) := fun b hb => ⟨Nat.lt_of_lt_of_le (HPU0.out b hb).1 hj.sz, (HPU0.out b hb).2⟩
            have HIB : Hid (∀ t : Beh W, InP w (fun b => b = tb ∨ b = nb0) (fun b => (Value.slice aE0 nE0 cE0).ownBlock = some b) tb rb m0 W t.wd) := fun t => hj.inp.below t.ok
            clear hj hx j1 j2 hl hrw hbw hen hao hg hf c0 c1 c2 hin
            simp only [pv, List.setIfInBounds_toArray, List.set_cons_zero, List.set_cons_succ]
            gi_wp2
            refine wpIn_region_behR (by kernel_rfl) (by kernel_rfl) (by kernel_rfl) ?_
            repeat (go_big_quiet_step (fail))
            refine wpQuiet_nil ?_
            rintro _ ⟨t, rfl⟩
            obtain ⟨W1, HW1'⟩ : ∃ W1, Hid (W1 = t.wd) := ⟨_, rfl⟩
            have HIP0 := hid (HIB.out t)
            rw [← HW1'.out] at HIP0 ⊢
            clear e0 e1 e2 kc wc' pc0 pc1 n1 b2 b3 g1 g2 g3 g4 hq HIB HW1'
            clear t
            gi_wp2
            gi_loopw [18, 19] (fun jv _ wr => ∃ j : Nat, jv = .int .i64 (j : Int) ∧ j ≤ 3 ∧ Hid (InP w (fun b => b = tb ∨ b = nb0) (fun b => (Value.slice aE0 nE0 cE0).ownBlock = some b) tb rb m0 W wr)) (fun jv _ _ => 3 - (intOf jv).toNat)
            case atStart => exact ⟨0, rfl, by omega, HIP0⟩
            case round =>
              obtain ⟨j, rfl, hj, HIP⟩ := hrel
              by_cases hj3 : j < 3
              · have b1 : (j : Int) < 3 := by omega
                obtain ⟨q, HQ⟩ : ∃ q, Hid (q = 3 * i + j) := ⟨_, rfl⟩
                have hqi : 3 * (i : Int) + (j : Int) = (q : Int) := by have := HQ.out; omega
                have hql : (q : Int) ≤ 100000000000 := by have := HQ.out; omega
                have hi4 : 3 * (i : Int) ≤ 9223372036854775807 := by omega
                have hrw2 := HRW.out.fr HIP.out.fr
                have hnr : wr.heap[nb0]? = some (.cells #[.int .i64 (i : Int)] 3) := HIP.out.fr.cells HJ.out.nx (by decide)
                have nc : wr.cell? ⟨nb0, 0, none⟩ = some (.int .i64 (i : Int)) := by rw [cell_of_row _ _ _ _ _ _ hnr]; rfl
                have ac : wr.cell? ⟨w.heap.size + 1, 0, none⟩ = some (.slice aa na ca) := by rw [cell_of_row _ _ _ _ _ _ hrw2.am]; rfl
                by_cases hqn : q < na
                · have b4 : (q : Int) < (na : Int) := by omega
                  have b5 : (0 : Int) ≤ (q : Int) := by omega
                  obtain ⟨g, off, p, haa, hg, c0, c1, c2, c3, c4, c5, hmem⟩ := (HS3.out.below HIP.out.am.bel).at q hqn
                  subst haa
                  have hok : p.Ok := HK3.out p hmem
                  by_cases hk1 : p.k = 1
                  · have hkk : p.k = 1 := hk1
                    rw [hkk] at c0
                    obtain ⟨wo, HWO⟩ : ∃ wo, Hid (wo = wr.alloc (.cells #[.int .i64 1, .int .i64 p.s, .int .u32 (p.x : Int), .int .i64 p.y, .int .u32 (p.A : Int), .int .i64 p.a] 71)) := ⟨_, rfl⟩
                    obtain ⟨ob, HOB⟩ : ∃ ob, Hid (ob = wr.heap.size) := ⟨_, rfl⟩
                    have hbo : Below wr.heap.size wr wo := by rw [HWO.out]; exact (Below.refl _ _).alloc (Nat.le_refl _) _
                    have ro : wo.heap[ob]? = some (.cells #[.int .i64 1, .int .i64 p.s, .int .u32 (p.x : Int), .int .i64 p.y, .int .u32 (p.A : Int), .int .i64 p.a] 71) := by rw [HWO.out, HOB.out]; exact heap_alloc_new wr _
                    have hIo := HIP.out.below hbo
                    have hro := hrw2.below hbo
                    have d0 : wo.cell? ⟨ob, 0, none⟩ = some (.int .i64 1) := by rw [cell_of_row _ _ _ _ _ _ ro]; rfl
                    have d1 : wo.cell? ⟨ob, 1, none⟩ = some (.int .i64 p.s) := by rw [cell_of_row _ _ _ _ _ _ ro]; rfl
                    have d2 : wo.cell? ⟨ob, 2, none⟩ = some (.int .u32 (p.x : Int)) := by rw [cell_of_row _ _ _ _ _ _ ro]; rfl
                    have d3 : wo.cell? ⟨ob, 3, none⟩ = some (.int .i64 p.y) := by rw [cell_of_row _ _ _ _ _ _ ro]; rfl
                    have d4 : wo.cell? ⟨ob, 4, none⟩ = some (.int .u32 (p.A : Int)) := by rw [cell_of_row _ _ _ _ _ _ ro]; rfl
                    have d5 : wo.cell? ⟨ob, 5, none⟩ = some (.int .i64 p.a) := by rw [cell_of_row _ _ _ _ _ _ ro]; rfl
                    have y0 : wo.cell? ⟨ax, 0, none⟩ = some (.pointer (some ⟨tb, 0, none⟩)) := by rw [cell_of_row _ _ _ _ _ _ hro.ra]; rfl
                    have y1 : wo.cell? ⟨bx, 0, none⟩ = some (.pointer (some ⟨rb, 0, none⟩)) := by rw [cell_of_row _ _ _ _ _ _ hro.rr]; rfl
                    have HPL := hid (hIo.play (s := p.s) (y := p.y) (a := p.a) HPW.out (k := 1) (by omega) hok.1 hok.2.1)
                    unfold oCells at HPL
                    rw [HOB.out] at d0 d1 d2 d3 d4 d5
                    rw [HWO.out] at d0 d1 d2 d3 d4 d5 y0 y1 HPL
                    clear hbo ro hIo hro hok hmem hg hk1 hkk hrw2 hnr
                    gi_wp2
                    refine ⟨trivial, ?_⟩
                    have hCI : CallsIn (Fence.wide.inRound l) (7 - 1) Try.prog 30 _ _ _ := (callsIn_wide (n := 7 - 1)).2 HPL.out
                    refine hCI.mono ?_
                    rintro _ w7 ⟨rfl, hI7⟩
                    have HI7 := hid hI7
                    clear hI7 d0 d1 d2 d3 d4 d5 y0 y1 c0 c1 c2 c3 c4 c5 HPL
                    clear hqi hql hi4 b4 b5 nc ac HQ
                    gi_wp2
                    go_roundw
                    case rel => exact ⟨j + 1, by go_num, by omega, HI7⟩
                    case measure => simp [intOf]; omega
                  · by_cases hk2 : p.k = 2
                    · have hkk : p.k = 2 := hk2
                      rw [hkk] at c0
                      obtain ⟨wo, HWO⟩ : ∃ wo, Hid (wo = wr.alloc (.cells #[.int .i64 2, .int .i64 p.s, .int .u32 (p.x : Int), .int .i64 p.y, .int .u32 (p.A : Int), .int .i64 p.a] 71)) := ⟨_, rfl⟩
                      obtain ⟨ob, HOB⟩ : ∃ ob, Hid (ob = wr.heap.size) := ⟨_, rfl⟩
                      have hbo : Below wr.heap.size wr wo := by rw [HWO.out]; exact (Below.refl _ _).alloc (Nat.le_refl _) _
                      have ro : wo.heap[ob]? = some (.cells #[.int .i64 2, .int .i64 p.s, .int .u32 (p.x : Int), .int .i64 p.y, .int .u32 (p.A : Int), .int .i64 p.a] 71) := by rw [HWO.out, HOB.out]; exact heap_alloc_new wr _
                      have hIo := HIP.out.below hbo
                      have hro := hrw2.below hbo
                      have d0 : wo.cell? ⟨ob, 0, none⟩ = some (.int .i64 2) := by rw [cell_of_row _ _ _ _ _ _ ro]; rfl
                      have d1 : wo.cell? ⟨ob, 1, none⟩ = some (.int .i64 p.s) := by rw [cell_of_row _ _ _ _ _ _ ro]; rfl
                      have d2 : wo.cell? ⟨ob, 2, none⟩ = some (.int .u32 (p.x : Int)) := by rw [cell_of_row _ _ _ _ _ _ ro]; rfl
                      have d3 : wo.cell? ⟨ob, 3, none⟩ = some (.int .i64 p.y) := by rw [cell_of_row _ _ _ _ _ _ ro]; rfl
                      have d4 : wo.cell? ⟨ob, 4, none⟩ = some (.int .u32 (p.A : Int)) := by rw [cell_of_row _ _ _ _ _ _ ro]; rfl
                      have d5 : wo.cell? ⟨ob, 5, none⟩ = some (.int .i64 p.a) := by rw [cell_of_row _ _ _ _ _ _ ro]; rfl
                      have y0 : wo.cell? ⟨ax, 0, none⟩ = some (.pointer (some ⟨tb, 0, none⟩)) := by rw [cell_of_row _ _ _ _ _ _ hro.ra]; rfl
                      have y1 : wo.cell? ⟨bx, 0, none⟩ = some (.pointer (some ⟨rb, 0, none⟩)) := by rw [cell_of_row _ _ _ _ _ _ hro.rr]; rfl
                      have HPL := hid (hIo.play (s := p.s) (y := p.y) (a := p.a) HPW.out (k := 2) (by omega) hok.1 hok.2.1)
                      unfold oCells at HPL
                      rw [HOB.out] at d0 d1 d2 d3 d4 d5
                      rw [HWO.out] at d0 d1 d2 d3 d4 d5 y0 y1 HPL
                      clear hbo ro hIo hro hok hmem hg hk2 hkk hrw2 hnr
                      gi_wp2
                      refine ⟨trivial, ?_⟩
                      have hCI : CallsIn (Fence.wide.inRound l) (7 - 1) Try.prog 30 _ _ _ := (callsIn_wide (n := 7 - 1)).2 HPL.out
                      refine hCI.mono ?_
                      rintro _ w7 ⟨rfl, hI7⟩
                      have HI7 := hid hI7
                      clear hI7 d0 d1 d2 d3 d4 d5 y0 y1 c0 c1 c2 c3 c4 c5 HPL
                      clear hqi hql hi4 b4 b5 nc ac HQ
                      gi_wp2
                      go_roundw
                      case rel => exact ⟨j + 1, by go_num, by omega, HI7⟩
                      case measure => simp [intOf]; omega
                    · by_cases hk4 : p.k = 4
                      · have hkk : p.k = 4 := hk4
                        rw [hkk] at c0
                        obtain ⟨wo, HWO⟩ : ∃ wo, Hid (wo = wr.alloc (.cells #[.int .i64 4, .int .i64 p.s, .int .u32 (p.x : Int), .int .i64 p.y, .int .u32 (p.A : Int), .int .i64 p.a] 71)) := ⟨_, rfl⟩
                        obtain ⟨ob, HOB⟩ : ∃ ob, Hid (ob = wr.heap.size) := ⟨_, rfl⟩
                        have hbo : Below wr.heap.size wr wo := by rw [HWO.out]; exact (Below.refl _ _).alloc (Nat.le_refl _) _
                        have ro : wo.heap[ob]? = some (.cells #[.int .i64 4, .int .i64 p.s, .int .u32 (p.x : Int), .int .i64 p.y, .int .u32 (p.A : Int), .int .i64 p.a] 71) := by rw [HWO.out, HOB.out]; exact heap_alloc_new wr _
                        have hIo := HIP.out.below hbo
                        have hro := hrw2.below hbo
                        have d0 : wo.cell? ⟨ob, 0, none⟩ = some (.int .i64 4) := by rw [cell_of_row _ _ _ _ _ _ ro]; rfl
                        have d1 : wo.cell? ⟨ob, 1, none⟩ = some (.int .i64 p.s) := by rw [cell_of_row _ _ _ _ _ _ ro]; rfl
                        have d2 : wo.cell? ⟨ob, 2, none⟩ = some (.int .u32 (p.x : Int)) := by rw [cell_of_row _ _ _ _ _ _ ro]; rfl
                        have d3 : wo.cell? ⟨ob, 3, none⟩ = some (.int .i64 p.y) := by rw [cell_of_row _ _ _ _ _ _ ro]; rfl
                        have d4 : wo.cell? ⟨ob, 4, none⟩ = some (.int .u32 (p.A : Int)) := by rw [cell_of_row _ _ _ _ _ _ ro]; rfl
                        have d5 : wo.cell? ⟨ob, 5, none⟩ = some (.int .i64 p.a) := by rw [cell_of_row _ _ _ _ _ _ ro]; rfl
                        have y0 : wo.cell? ⟨ax, 0, none⟩ = some (.pointer (some ⟨tb, 0, none⟩)) := by rw [cell_of_row _ _ _ _ _ _ hro.ra]; rfl
                        have y1 : wo.cell? ⟨bx, 0, none⟩ = some (.pointer (some ⟨rb, 0, none⟩)) := by rw [cell_of_row _ _ _ _ _ _ hro.rr]; rfl
                        have HPL := hid (hIo.play (s := p.s) (y := p.y) (a := p.a) HPW.out (k := 4) (by omega) hok.1 hok.2.1)
                        unfold oCells at HPL
                        rw [HOB.out] at d0 d1 d2 d3 d4 d5
                        rw [HWO.out] at d0 d1 d2 d3 d4 d5 y0 y1 HPL
                        clear hbo ro hIo hro hok hmem hg hk4 hkk hrw2 hnr
                        gi_wp2
                        refine ⟨trivial, ?_⟩
                        have hCI : CallsIn (Fence.wide.inRound l) (7 - 1) Try.prog 30 _ _ _ := (callsIn_wide (n := 7 - 1)).2 HPL.out
                        refine hCI.mono ?_
                        rintro _ w7 ⟨rfl, hI7⟩
                        have HI7 := hid hI7
                        clear hI7 d0 d1 d2 d3 d4 d5 y0 y1 c0 c1 c2 c3 c4 c5 HPL
                        clear hqi hql hi4 b4 b5 nc ac HQ
                        gi_wp2
                        go_roundw
                        case rel => exact ⟨j + 1, by go_num, by omega, HI7⟩
                        case measure => simp [intOf]; omega
                      · have z1 : ¬ p.k = 1 := hk1
                        have z2 : ¬ p.k = 2 := hk2
                        have z5 : ¬ p.k = 4 := hk4
                        have z3 : (p.k == 1) = false := by simp [hk1]
                        have z4 : (p.k == 2) = false := by simp [hk2]
                        have z6 : (p.k == 4) = false := by simp [hk4]
                        obtain ⟨wo, HWO⟩ : ∃ wo, Hid (wo = wr.alloc (.cells #[.int .i64 p.k, .int .i64 p.s, .int .u32 (p.x : Int), .int .i64 p.y, .int .u32 (p.A : Int), .int .i64 p.a] 71)) := ⟨_, rfl⟩
                        obtain ⟨ob, HOB⟩ : ∃ ob, Hid (ob = wr.heap.size) := ⟨_, rfl⟩
                        have hbo : Below wr.heap.size wr wo := by rw [HWO.out]; exact (Below.refl _ _).alloc (Nat.le_refl _) _
                        have ro : wo.heap[ob]? = some (.cells #[.int .i64 p.k, .int .i64 p.s, .int .u32 (p.x : Int), .int .i64 p.y, .int .u32 (p.A : Int), .int .i64 p.a] 71) := by rw [HWO.out, HOB.out]; exact heap_alloc_new wr _
                        have d0 : wo.cell? ⟨ob, 0, none⟩ = some (.int .i64 p.k) := by rw [cell_of_row _ _ _ _ _ _ ro]; rfl
                        have HI7 := hid (HIP.out.below hbo)
                        rw [HOB.out] at d0
                        rw [HWO.out] at d0
                        clear hbo ro hok hmem hg hrw2 hnr
                        gi_wp2
                        refine ⟨trivial, ?_⟩
                        rw [← HWO.out]
                        clear hqi hql hi4 b4 b5 nc ac HQ d0 c0 c1 c2 c3 c4 c5
                        gi_wp2
                        go_roundw
                        case rel => exact ⟨j + 1, by go_num, by omega, HI7⟩
                        case measure => simp [intOf]; omega
                · have b4 : ¬ (q : Int) < (na : Int) := by omega
                  clear hrw2 hnr
                  have hnw : wr.heap[nb0]? = some (.cells #[.int .i64 (i : Int)] 3) := HIP.out.fr.cells HJ.out.nx (by decide)
                  have nc : wr.cell? ⟨nb0, 0, none⟩ = some (.int .i64 (i : Int)) := by rw [cell_of_row _ _ _ _ _ _ hnw]; rfl
                  have nf : wr.frozen? ⟨nb0, 0, none⟩ = false := frozen_of_row _ _ _ _ _ hnw
                  have HFIN := hid (HJ.out.next (W' := wr.setCell ⟨nb0, 0, none⟩ (.int .i64 ((i : Int) + 1))) HIP.out (.inr rfl) HLO0.out (Array.getElem?_eq_some_iff.1 HNU0.out).1 (But.set _ _ _ _) (by rw [set_row hnw]; rfl))
                  clear hnw
                  gi_wp2
                  exact HFIN.out
              · have b1 : ¬ (j : Int) < 3 := by omega
                have hnw : wr.heap[nb0]? = some (.cells #[.int .i64 (i : Int)] 3) := HIP.out.fr.cells HJ.out.nx (by decide)
                have nc : wr.cell? ⟨nb0, 0, none⟩ = some (.int .i64 (i : Int)) := by rw [cell_of_row _ _ _ _ _ _ hnw]; rfl
                have nf : wr.frozen? ⟨nb0, 0, none⟩ = false := frozen_of_row _ _ _ _ _ hnw
                have HFIN := hid (HJ.out.next (W' := wr.setCell ⟨nb0, 0, none⟩ (.int .i64 ((i : Int) + 1))) HIP.out (.inr rfl) HLO0.out (Array.getElem?_eq_some_iff.1 HNU0.out).1 (But.set _ _ _ _) (by rw [set_row hnw]; rfl))
                clear hnw
                gi_wp2
                exact HFIN.out
          case done0 =>
            rintro D0 W hD hj hK
            have hrw := HRU0.out.ami HNU0.out hj
            have hbw := hj.cells HBU0.out (kinds_ne HBU0.out HNU0.out (by decide)) (by decide)
            have hnx := hj.nx
            rw [← HNE0.out] at hnx
            have n0 : W.cell? ⟨nb0, 0, none⟩ = some (.int .i64 (nE0 : Int)) := by rw [cell_of_row _ _ _ _ _ _ hnx]; rfl
            have w0 : W.cell? ⟨bw0, 0, none⟩ = some (.slice aE0 nE0 cE0) := by rw [cell_of_row _ _ _ _ _ _ hbw]; rfl
            have HA1 := hid hj.am
            have HR1 := hid hrw
            have HK0 := hid hK
            have HDS0 : Hid (w.heap.size + 2 < D0 ∧ U0.heap.size ≤ D0) := ⟨Nat.lt_of_lt_of_le HSZ0.out.1 hD, hD⟩
            clear hrw hbw hnx hj hK hD
            obtain ⟨V9, hV9⟩ : ∃ V9, V9 = W := ⟨_, rfl⟩
            rw [← hV9] at HA1 HR1 HK0 n0 w0 ⊢
            clear hV9
            have HD0V := HK0
            go_wp2_with fail
            rw [rounds_succ]
            clear n0 w0

            obtain ⟨v1, t1, L1, hd, hv⟩ := HA1.out.duo
            obtain ⟨m1, hrow, hmt, hLi⟩ := hd.tr.tree
            subst hmt
            have HROW1 := hid hrow
            have HLI1 := hid hLi
            have HDU1 := hid hd
            have HWF1 := hid hd.tr.wf
            have HNM1 : Hid (nodes m1.tr ≤ 10000000000) := by
              have h := WF_nodes hd.tr.wf
              rw [show top.x = 0 from rfl, top_s] at h
              unfold Hid; omega
            obtain ⟨E1, HE1⟩ : ∃ E, Hid (E = entsIn (ents m1.tr) px py) := ⟨_, rfl⟩
            have HEL1 : Hid (E1.length ≤ 10000000000) := by
              have h1 := entsIn_len (ents m1.tr) px py
              have h2 := ents_nodes m1.tr
              have h3 := HNM1.out
              unfold Hid; rw [HE1.out]; omega
            have y1 : V9.cell? ⟨bx, 0, none⟩ = some (.pointer (some ⟨rb, 0, none⟩)) := by rw [cell_of_row _ _ _ _ _ _ HR1.out.rr]; rfl
            have p0 : V9.cell? ⟨w.heap.size, 0, none⟩ = some (.int .u32 (x : Int)) := by rw [cell_of_row _ _ _ _ _ _ HR1.out.wp]; rfl
            have p1 : V9.cell? ⟨w.heap.size, 1, none⟩ = some (.int .i64 y) := by rw [cell_of_row _ _ _ _ _ _ HR1.out.wp]; rfl
            have HWT := hid (want_within (y := y) hd HX.out)
            unfold qv at HWT
            clear hd hv hrow hLi
            go_wp2_with fail
            refine HWT.out.mono ?_
            rintro _ V1 ⟨⟨vw1, rfl, ho1⟩, hb1⟩
            obtain ⟨aw, nw, cw, rfl, _, _, _⟩ := ho1.shape
            obtain ⟨V2, HV2⟩ : ∃ V2, Hid (V2 = V1.alloc (.cells #[.slice aw nw cw] 73)) := ⟨_, rfl⟩
            have hb12 : Below V1.heap.size V1 V2 := by rw [HV2.out]; exact (Below.refl _ _).alloc (Nat.le_refl _) _
            obtain ⟨bw1, HBW1⟩ : ∃ bw, Hid (bw = V1.heap.size) := ⟨_, rfl⟩
            have rw2 : V2.heap[bw1]? = some (.cells #[.slice aw nw cw] 73) := by rw [HV2.out, HBW1.out]; exact heap_alloc_new V1 _
            have HB2 : Hid (Below V9.heap.size V9 V2) := hb1.trans (hb12.mono hb1.size)
            have HRW2 := hid rw2
            have HO2 := hid (ho1.below hb12)
            have HGE : Hid (V9.heap.size ≤ bw1) := by unfold Hid; rw [HBW1.out]; exact hb1.size
            clear ho1 hb1 hb12 rw2 y1 p0 p1 HWT
            go_upto_if 70 with fail
            rw [← HV2.out, ← HBW1.out]
            go_cut [] from 63 (fun Vc => ∃ (a : Option Addr) (n c : Nat), Hid (Vc.heap[bw1]? = some (.cells #[.slice a n c] 73)) ∧ Hid (OwnE Vc V9.heap.size (.slice a n c) E1) ∧ Hid (Below V9.heap.size V9 Vc))
            case first =>
              cases all with
              | false =>
                have HOE : Hid (OwnE V2 V9.heap.size (.slice aw nw cw) E1) := by
                  unfold Hid
                  rw [HE1.out, HPP.out.1, HPP.out.2]
                  exact HO2.out
                go_wp2_with fail
                go_meet
                case rel => exact ⟨aw, nw, cw, HRW2, HOE, HB2⟩
              | true =>
                have hr2 := HR1.out.below HB2.out
                have y1 : V2.cell? ⟨bx, 0, none⟩ = some (.pointer (some ⟨rb, 0, none⟩)) := by rw [cell_of_row _ _ _ _ _ _ hr2.rr]; rfl
                have HAL := hid (want_all HDU1.out HB2.out)
                clear hr2
                go_wp2_with fail
                refine HAL.out.mono ?_
                rintro _ V3 ⟨⟨vw3, rfl, ho3⟩, hb3⟩
                obtain ⟨a3, n3, c3, rfl, _, _, _⟩ := ho3.shape
                have rw3 := below_keeps hb3 HRW2.out (Array.getElem?_eq_some_iff.1 HRW2.out).1
                have s0 : V3.cell? ⟨bw1, 0, none⟩ = some (.slice aw nw cw) := by rw [cell_of_row _ _ _ _ _ _ rw3]; rfl
                have sf : V3.frozen? ⟨bw1, 0, none⟩ = false := frozen_of_row _ _ _ _ _ rw3
                obtain ⟨V4, HV4⟩ : ∃ V4, Hid (V4 = V3.setCell ⟨bw1, 0, none⟩ (.slice a3 n3 c3)) := ⟨_, rfl⟩
                have bt : But bw1 V3 V4 := by rw [HV4.out]; exact But.set _ _ _ _
                have HR4 : Hid (V4.heap[bw1]? = some (.cells #[.slice a3 n3 c3] 73)) := by rw [HV4.out]; exact set_row rw3
                have hb03 : Below V9.heap.size V9 V3 := HB2.out.trans (hb3.mono HB2.out.size)
                have HB4 : Hid (Below V9.heap.size V9 V4) := bt.below hb03 hb03.size HGE.out
                have HO4 : Hid (OwnE V4 V9.heap.size (.slice a3 n3 c3) E1) := by
                  unfold Hid
                  rw [HE1.out, HPP.out.1, HPP.out.2]
                  refine ho3.chg (Z := fun b => b = bw1) (fun b hb e => ?_) (Chg.of_but bt rfl)
                  obtain ⟨cs, hk⟩ := ho3.kind hb
                  exact kinds_ne hk rw3 (by decide) e
                clear ho3 hb3 rw3 bt hb03 y1 HAL
                go_wp2_with fail
                rw [← HV4.out]
                go_meet
                case rel => exact ⟨a3, n3, c3, HR4, HO4, HB4⟩
            case rest =>
              obtain ⟨aE1, nE1, cE1, HRB1, HOE1, HBV1⟩ := hcut
              obtain ⟨Vc1, hVc⟩ : ∃ Vc, Vc = wc := ⟨_, rfl⟩
              rw [← hVc] at HRB1 HOE1 HBV1 ⊢
              clear hVc HB2 HRW2 HO2
              obtain ⟨U1, HU1⟩ : ∃ U, Hid (U = Vc1.alloc (.cells #[.int .i64 0] 3)) := ⟨_, rfl⟩
              have hbU : Below Vc1.heap.size Vc1 U1 := by rw [HU1.out]; exact (Below.refl _ _).alloc (Nat.le_refl _) _
              obtain ⟨nb1, HNB1⟩ : ∃ nb, Hid (nb = Vc1.heap.size) := ⟨_, rfl⟩
              have HNU1 : Hid (U1.heap[nb1]? = some (.cells #[.int .i64 ((0 : Nat) : Int)] 3)) := by unfold Hid; rw [HU1.out, HNB1.out]; exact heap_alloc_new Vc1 _
              have hbVU : Below V9.heap.size V9 U1 := HBV1.out.trans (hbU.mono HBV1.out.size)
              have hoU : OwnE U1 V9.heap.size (.slice aE1 nE1 cE1) E1 := HOE1.out.below hbU
              obtain ⟨hI0, hPW⟩ := ami_begin HA1.out (.inl rfl) HDU1.out HROW1.out HLI1.out hbVU (by rw [HNB1.out]; exact HBV1.out.size) HNU1.out hoU
              have HI01 := hid hI0
              have HPU1 := hid hPW
              have HOU1 := hid hoU
              have HRU1 := hid (HR1.out.below hbVU)
              have HBU1 : Hid (U1.heap[bw1]? = some (.cells #[.slice aE1 nE1 cE1] 73)) := below_keeps hbU HRB1.out (Array.getElem?_eq_some_iff.1 HRB1.out).1
              have HLO1 : Hid (w.heap.size ≤ nb1) := by
                unfold Hid; rw [HNB1.out]; exact Nat.le_trans HA1.out.bel.size HBV1.out.size
              have HSZ1 : Hid (w.heap.size + 2 < U1.heap.size ∧ tb < U1.heap.size) := ⟨(Array.getElem?_eq_some_iff.1 HRU1.out.rs).1, Nat.lt_of_lt_of_le (Array.getElem?_eq_some_iff.1 HROW1.out).1 hbVU.size⟩
              have HNE1 : Hid (nE1 = E1.length) := by
                have h := hoU.shape
                obtain ⟨a', n', c', h1, h2, _, _⟩ := h
                simp at h1
                unfold Hid; rw [h1.2.1]; exact h2.out
              have HD0U : Hid (U1.heap[D0]? = some (.deferred (some []))) := below_keeps hbVU HD0V.out (Array.getElem?_eq_some_iff.1 HD0V.out).1
              have HSQG1 := hid (amid_gives 8 (by omega) (fun b => b = tb ∨ b = nb1) pbx tbx tb px py m1 HPX.out HWF1.out HNM1.out)
              rw [← HE1.out] at HSQG1
              clear hbU hbVU hoU hI0 hPW
              go_upto_region 22 with fail
              rw [← HU1.out, ← HNB1.out]
              go_wp2_with fail
              refine wpIn_wide.1 (wpIn_givesU (β := Nat) (n := 9) (F := Fence.wide) rfl (by omega) (gf := 41) (lb := #[.pointer (some ⟨pbx, 0, none⟩), .pointer (some ⟨tbx, 0, none⟩)]) rfl trivial (enters_of Try.func41 (by kernel_rfl) rfl)
                HSQG1.out (fun _ => rfl) (fun i V => AmI w U1 (fun b => b = tb ∨ b = nb1) (fun b => (Value.slice aE1 nE1 cE1).ownBlock = some b) tb rb nb1 m1 i V) (fun _ _ => False) ?hI1 ?hIx1 ?hF1 ?h01
                (fun e b tt => (((tt.setIfInBounds 74 (pv e.1)).setIfInBounds 75 (.int .i64 e.2)).setIfInBounds 16 (.pointer (some ⟨b, 0, none⟩))).setIfInBounds 17 (.int .i64 e.2)) (fun e b V => U1.heap.size ≤ b ∧ V.heap[b]? = some (.cells #[.int .u32 (e.1.x : Int), .int .i64 (e.1.n : Int)] 31)) ?hAy1 ?assign1 ?body1 ?done1 ?stop1)
              case hI1 => exact AmI.own (Array.getElem?_eq_some_iff.1 HNU1.out).1 HSZ1.out.2 (by have := HSZ1.out.1; omega)
              case hIx1 => exact fun _ _ _ _ h _ _ => h.elim
              case hF1 =>
                intro k V h
                have hrw := HRU1.out.ami HNU1.out h
                exact ⟨h.li, hrw.pb, hrw.tx, h.wi⟩
              case h01 => exact HI01.out
              case hAy1 =>
                rintro e b _ W W' row ⟨h1, h2⟩ hg hr
                refine ⟨h1, (hg.block _ (Array.getElem?_eq_some_iff.1 h2).1 (fun he => ?_)).trans h2⟩
                obtain ⟨_, o, ho, hm⟩ := hr b he.symm
                rw [h2] at ho
                cases ho
                rcases hm with hm | ⟨cs, hm⟩ | ⟨cs, hm⟩
                · cases hm
                · injection hm with _ hm; exact absurd hm (by decide)
                · injection hm with _ hm; exact absurd hm (by decide)
              case assign1 =>
                intro l i e V K hi hx hK
                obtain ⟨V2', HV2'⟩ : ∃ V2', Hid (V2' = V.alloc (.cells #[.int .u32 (e.1.x : Int), .int .i64 (e.1.n : Int)] 31)) := ⟨_, rfl⟩
                have hbV : Below V.heap.size V V2' := by rw [HV2'.out]; exact (Below.refl _ _).alloc (Nat.le_refl _) _
                have hrV : V2'.heap[V.heap.size]? = some (.cells #[.int .u32 (e.1.x : Int), .int .i64 (e.1.n : Int)] 31) := by rw [HV2'.out]; exact heap_alloc_new V _
                have hI2 : AmI w U1 (fun b => b = tb ∨ b = nb1) (fun b => (Value.slice aE1 nE1 cE1).ownBlock = some b) tb rb nb1 m1 i V2' :=
                  AmI.own (Array.getElem?_eq_some_iff.1 HNU1.out).1 HSZ1.out.2 (by have := HSZ1.out.1; omega) i V V2' none hi ⟨hbV.os, hbV.tape, hbV.output, hbV.size, fun j hj _ => hbV.block j hj⟩ (fun r e => by cases e)
                have HK := hK V.heap.size V2' (KeepsN.of_below hbV) hI2 ⟨hi.sz, hrV⟩
                unfold pv at HK ⊢
                simp only [List.setIfInBounds_toArray, List.set_cons_zero, List.set_cons_succ] at HK ⊢
                clear hK hi hx hbV hrV hI2
                gi_wp2
                rw [← HV2'.out]
                gi_wp2
                exact HK
              case body1 =>
                rintro l i e b W hl _ hj ⟨j1, j2⟩ hx
                obtain ⟨ek, ev⟩ := e
                simp only at j2
                have hin : i < nE1 := by have h1 := (List.getElem?_eq_some_iff.1 hx).1; have h2 := HNE1.out; omega
                have hrw := HRU1.out.ami HNU1.out hj
                have hbw := hj.cells HBU1.out (kinds_ne HBU1.out HNU1.out (by decide)) (by decide)
                have hen : OwnE W V9.heap.size (.slice aE1 nE1 cE1) E1 := own_keep HOU1.out fun b' o hb' ho => hj.fr b' o ho (by
                  obtain ⟨cs, hk⟩ := HOU1.out.kind hb'
                  exact kinds_ne hk HNU1.out (by decide)) (.inl hb')
                obtain ⟨g, f, hao, hg, hf, c0, c1, c2⟩ := hen.at i hin
                rw [hx] at hf
                obtain rfl := Option.some.inj hf
                rw [hao] at hbw
                simp only at c0 c1 c2
                have e0 : ∀ t : Beh W, t.wd.cell? ⟨g, i * 3, none⟩ = some (.int .u32 (ek.x : Int)) := fun t => (t.ok.cell (p := ⟨g, _, none⟩) hg).trans c0
                have e1 : ∀ t : Beh W, t.wd.cell? ⟨g, i * 3 + 1, none⟩ = some (.int .i64 (ek.n : Int)) := fun t => (t.ok.cell (p := ⟨g, _, none⟩) hg).trans c1
                have e2 : ∀ t : Beh W, t.wd.cell? ⟨g, i * 3 + 2, none⟩ = some (.int .i64 ev) := fun t => (t.ok.cell (p := ⟨g, _, none⟩) hg).trans c2
                have kc : ∀ t : Beh W, t.wd.cell? ⟨nb1, 0, none⟩ = some (.int .i64 (i : Int)) := fun t => by rw [cell_of_row _ _ _ _ _ _ (below_keeps t.ok hj.nx (Array.getElem?_eq_some_iff.1 hj.nx).1)]; rfl
                have wc' : ∀ t : Beh W, t.wd.cell? ⟨bw1, 0, none⟩ = some (.slice (some ⟨g, 0, none⟩) nE1 cE1) := fun t => by rw [cell_of_row _ _ _ _ _ _ (below_keeps t.ok hbw (Array.getElem?_eq_some_iff.1 hbw).1)]; rfl
                have pc0 : ∀ t : Beh W, t.wd.cell? ⟨b, 0, none⟩ = some (.int .u32 (ek.x : Int)) := fun t => by rw [cell_of_row _ _ _ _ _ _ (below_keeps t.ok j2 (Array.getElem?_eq_some_iff.1 j2).1)]; rfl
                have pc1 : ∀ t : Beh W, t.wd.cell? ⟨b, 1, none⟩ = some (.int .i64 (ek.n : Int)) := fun t => by rw [cell_of_row _ _ _ _ _ _ (below_keeps t.ok j2 (Array.getElem?_eq_some_iff.1 j2).1)]; rfl
                have n1 : (i : Int) < (nE1 : Int) := by omega
                have b2 : (0 : Int) ≤ (i : Int) := by omega
                have b3 : decide ((i : Int) < 0) = false := by simp
                have hi3 : i ≤ 10000000000 := by have h1 := HNE1.out; have h2 := HEL1.out; omega
                have g1 : ¬ ((nE1 : Int) ≤ (i : Int)) := by omega
                have g2 : decide ((nE1 : Int) ≤ (i : Int)) = false := by simp; omega
                have g3 : ¬ (nE1 ≤ i) := by omega
                have g4 : decide (nE1 ≤ i) = false := by simp; omega
                have hq : ∀ u : World, (Op.equalIn 10000 31 (.agg #[.int .u32 (ek.x : Int), .int .i64 (ek.n : Int)]) (.agg #[.int .u32 (ek.x : Int), .int .i64 (ek.n : Int)])).run Try.prog u = .ok true u := fun u => (eqK ek ek u).trans (by simp)
                have HJ := hid hj
                have HRW := hid hrw
                have HPW : Hid (∀ b, (Value.slice aE1 nE1 cE1).ownBlock = some b → b < W.heap.size ∧ b ≠ tb ∧ b ≠ rb) := fun b hb => ⟨Nat.lt_of_lt_of_le (HPU1.out b hb).1 hj.sz, (HPU1.out b hb).2⟩
                have HIB : Hid (∀ t : Beh W, InP w (fun b => b = tb ∨ b = nb1) (fun b => (Value.slice aE1 nE1 cE1).ownBlock = some b) tb rb m1 W t.wd) := fun t => hj.inp.below t.ok
                clear hj hx j1 j2 hl hrw hbw hen hao hg hf c0 c1 c2 hin
                simp only [pv, List.setIfInBounds_toArray, List.set_cons_zero, List.set_cons_succ]
                gi_wp2
                refine wpIn_region_behR (by kernel_rfl) (by kernel_rfl) (by kernel_rfl) ?_
                repeat (go_big_quiet_step (fail))
                refine wpQuiet_nil ?_
                rintro _ ⟨t, rfl⟩
                obtain ⟨W1, HW1'⟩ : ∃ W1, Hid (W1 = t.wd) := ⟨_, rfl⟩
                have HIP0 := hid (HIB.out t)
                rw [← HW1'.out] at HIP0 ⊢
                clear e0 e1 e2 kc wc' pc0 pc1 n1 b2 b3 g1 g2 g3 g4 hq HIB HW1'
                clear t
                gi_wp2
                gi_loopw [18, 19] (fun jv _ wr => ∃ j : Nat, jv = .int .i64 (j : Int) ∧ j ≤ 3 ∧ Hid (InP w (fun b => b = tb ∨ b = nb1) (fun b => (Value.slice aE1 nE1 cE1).ownBlock = some b) tb rb m1 W wr)) (fun jv _ _ => 3 - (intOf jv).toNat)
                case atStart => exact ⟨0, rfl, by omega, HIP0⟩
                case round =>
                  obtain ⟨j, rfl, hj, HIP⟩ := hrel
                  by_cases hj3 : j < 3
                  · have b1 : (j : Int) < 3 := by omega
                    obtain ⟨q, HQ⟩ : ∃ q, Hid (q = 3 * i + j) := ⟨_, rfl⟩
                    have hqi : 3 * (i : Int) + (j : Int) = (q : Int) := by have := HQ.out; omega
                    have hql : (q : Int) ≤ 100000000000 := by have := HQ.out; omega
                    have hi4 : 3 * (i : Int) ≤ 9223372036854775807 := by omega
                    have hrw2 := HRW.out.fr HIP.out.fr
                    have hnr : wr.heap[nb1]? = some (.cells #[.int .i64 (i : Int)] 3) := HIP.out.fr.cells HJ.out.nx (by decide)
                    have nc : wr.cell? ⟨nb1, 0, none⟩ = some (.int .i64 (i : Int)) := by rw [cell_of_row _ _ _ _ _ _ hnr]; rfl
                    have ac : wr.cell? ⟨w.heap.size + 1, 0, none⟩ = some (.slice aa na ca) := by rw [cell_of_row _ _ _ _ _ _ hrw2.am]; rfl
                    by_cases hqn : q < na
                    · have b4 : (q : Int) < (na : Int) := by omega
                      have b5 : (0 : Int) ≤ (q : Int) := by omega
                      obtain ⟨g, off, p, haa, hg, c0, c1, c2, c3, c4, c5, hmem⟩ := (HS3.out.below HIP.out.am.bel).at q hqn
                      subst haa
                      have hok : p.Ok := HK3.out p hmem
                      by_cases hk1 : p.k = 1
                      · have hkk : p.k = 1 := hk1
                        rw [hkk] at c0
                        obtain ⟨wo, HWO⟩ : ∃ wo, Hid (wo = wr.alloc (.cells #[.int .i64 1, .int .i64 p.s, .int .u32 (p.x : Int), .int .i64 p.y, .int .u32 (p.A : Int), .int .i64 p.a] 71)) := ⟨_, rfl⟩
                        obtain ⟨ob, HOB⟩ : ∃ ob, Hid (ob = wr.heap.size) := ⟨_, rfl⟩
                        have hbo : Below wr.heap.size wr wo := by rw [HWO.out]; exact (Below.refl _ _).alloc (Nat.le_refl _) _
                        have ro : wo.heap[ob]? = some (.cells #[.int .i64 1, .int .i64 p.s, .int .u32 (p.x : Int), .int .i64 p.y, .int .u32 (p.A : Int), .int .i64 p.a] 71) := by rw [HWO.out, HOB.out]; exact heap_alloc_new wr _
                        have hIo := HIP.out.below hbo
                        have hro := hrw2.below hbo
                        have d0 : wo.cell? ⟨ob, 0, none⟩ = some (.int .i64 1) := by rw [cell_of_row _ _ _ _ _ _ ro]; rfl
                        have d1 : wo.cell? ⟨ob, 1, none⟩ = some (.int .i64 p.s) := by rw [cell_of_row _ _ _ _ _ _ ro]; rfl
                        have d2 : wo.cell? ⟨ob, 2, none⟩ = some (.int .u32 (p.x : Int)) := by rw [cell_of_row _ _ _ _ _ _ ro]; rfl
                        have d3 : wo.cell? ⟨ob, 3, none⟩ = some (.int .i64 p.y) := by rw [cell_of_row _ _ _ _ _ _ ro]; rfl
                        have d4 : wo.cell? ⟨ob, 4, none⟩ = some (.int .u32 (p.A : Int)) := by rw [cell_of_row _ _ _ _ _ _ ro]; rfl
                        have d5 : wo.cell? ⟨ob, 5, none⟩ = some (.int .i64 p.a) := by rw [cell_of_row _ _ _ _ _ _ ro]; rfl
                        have y0 : wo.cell? ⟨ax, 0, none⟩ = some (.pointer (some ⟨tb, 0, none⟩)) := by rw [cell_of_row _ _ _ _ _ _ hro.ra]; rfl
                        have y1 : wo.cell? ⟨bx, 0, none⟩ = some (.pointer (some ⟨rb, 0, none⟩)) := by rw [cell_of_row _ _ _ _ _ _ hro.rr]; rfl
                        have HPL := hid (hIo.play (s := p.s) (y := p.y) (a := p.a) HPW.out (k := 1) (by omega) hok.1 hok.2.1)
                        unfold oCells at HPL
                        rw [HOB.out] at d0 d1 d2 d3 d4 d5
                        rw [HWO.out] at d0 d1 d2 d3 d4 d5 y0 y1 HPL
                        clear hbo ro hIo hro hok hmem hg hk1 hkk hrw2 hnr
                        gi_wp2
                        refine ⟨trivial, ?_⟩
                        have hCI : CallsIn (Fence.wide.inRound l) (7 - 1) Try.prog 30 _ _ _ := (callsIn_wide (n := 7 - 1)).2 HPL.out
                        refine hCI.mono ?_
                        rintro _ w7 ⟨rfl, hI7⟩
                        have HI7 := hid hI7
                        clear hI7 d0 d1 d2 d3 d4 d5 y0 y1 c0 c1 c2 c3 c4 c5 HPL
                        clear hqi hql hi4 b4 b5 nc ac HQ
                        gi_wp2
                        go_roundw
                        case rel => exact ⟨j + 1, by go_num, by omega, HI7⟩
                        case measure => simp [intOf]; omega
                      · by_cases hk2 : p.k = 2
                        · have hkk : p.k = 2 := hk2
                          rw [hkk] at c0
                          obtain ⟨wo, HWO⟩ : ∃ wo, Hid (wo = wr.alloc (.cells #[.int .i64 2, .int .i64 p.s, .int .u32 (p.x : Int), .int .i64 p.y, .int .u32 (p.A : Int), .int .i64 p.a] 71)) := ⟨_, rfl⟩
                          obtain ⟨ob, HOB⟩ : ∃ ob, Hid (ob = wr.heap.size) := ⟨_, rfl⟩
                          have hbo : Below wr.heap.size wr wo := by rw [HWO.out]; exact (Below.refl _ _).alloc (Nat.le_refl _) _
                          have ro : wo.heap[ob]? = some (.cells #[.int .i64 2, .int .i64 p.s, .int .u32 (p.x : Int), .int .i64 p.y, .int .u32 (p.A : Int), .int .i64 p.a] 71) := by rw [HWO.out, HOB.out]; exact heap_alloc_new wr _
                          have hIo := HIP.out.below hbo
                          have hro := hrw2.below hbo
                          have d0 : wo.cell? ⟨ob, 0, none⟩ = some (.int .i64 2) := by rw [cell_of_row _ _ _ _ _ _ ro]; rfl
                          have d1 : wo.cell? ⟨ob, 1, none⟩ = some (.int .i64 p.s) := by rw [cell_of_row _ _ _ _ _ _ ro]; rfl
                          have d2 : wo.cell? ⟨ob, 2, none⟩ = some (.int .u32 (p.x : Int)) := by rw [cell_of_row _ _ _ _ _ _ ro]; rfl
                          have d3 : wo.cell? ⟨ob, 3, none⟩ = some (.int .i64 p.y) := by rw [cell_of_row _ _ _ _ _ _ ro]; rfl
                          have d4 : wo.cell? ⟨ob, 4, none⟩ = some (.int .u32 (p.A : Int)) := by rw [cell_of_row _ _ _ _ _ _ ro]; rfl
                          have d5 : wo.cell? ⟨ob, 5, none⟩ = some (.int .i64 p.a) := by rw [cell_of_row _ _ _ _ _ _ ro]; rfl
                          have y0 : wo.cell? ⟨ax, 0, none⟩ = some (.pointer (some ⟨tb, 0, none⟩)) := by rw [cell_of_row _ _ _ _ _ _ hro.ra]; rfl
                          have y1 : wo.cell? ⟨bx, 0, none⟩ = some (.pointer (some ⟨rb, 0, none⟩)) := by rw [cell_of_row _ _ _ _ _ _ hro.rr]; rfl
                          have HPL := hid (hIo.play (s := p.s) (y := p.y) (a := p.a) HPW.out (k := 2) (by omega) hok.1 hok.2.1)
                          unfold oCells at HPL
                          rw [HOB.out] at d0 d1 d2 d3 d4 d5
                          rw [HWO.out] at d0 d1 d2 d3 d4 d5 y0 y1 HPL
                          clear hbo ro hIo hro hok hmem hg hk2 hkk hrw2 hnr
                          gi_wp2
                          refine ⟨trivial, ?_⟩
                          have hCI : CallsIn (Fence.wide.inRound l) (7 - 1) Try.prog 30 _ _ _ := (callsIn_wide (n := 7 - 1)).2 HPL.out
                          refine hCI.mono ?_
                          rintro _ w7 ⟨rfl, hI7⟩
                          have HI7 := hid hI7
                          clear hI7 d0 d1 d2 d3 d4 d5 y0 y1 c0 c1 c2 c3 c4 c5 HPL
                          clear hqi hql hi4 b4 b5 nc ac HQ
                          gi_wp2
                          go_roundw
                          case rel => exact ⟨j + 1, by go_num, by omega, HI7⟩
                          case measure => simp [intOf]; omega
                        · by_cases hk4 : p.k = 4
                          · have hkk : p.k = 4 := hk4
                            rw [hkk] at c0
                            obtain ⟨wo, HWO⟩ : ∃ wo, Hid (wo = wr.alloc (.cells #[.int .i64 4, .int .i64 p.s, .int .u32 (p.x : Int), .int .i64 p.y, .int .u32 (p.A : Int), .int .i64 p.a] 71)) := ⟨_, rfl⟩
                            obtain ⟨ob, HOB⟩ : ∃ ob, Hid (ob = wr.heap.size) := ⟨_, rfl⟩
                            have hbo : Below wr.heap.size wr wo := by rw [HWO.out]; exact (Below.refl _ _).alloc (Nat.le_refl _) _
                            have ro : wo.heap[ob]? = some (.cells #[.int .i64 4, .int .i64 p.s, .int .u32 (p.x : Int), .int .i64 p.y, .int .u32 (p.A : Int), .int .i64 p.a] 71) := by rw [HWO.out, HOB.out]; exact heap_alloc_new wr _
                            have hIo := HIP.out.below hbo
                            have hro := hrw2.below hbo
                            have d0 : wo.cell? ⟨ob, 0, none⟩ = some (.int .i64 4) := by rw [cell_of_row _ _ _ _ _ _ ro]; rfl
                            have d1 : wo.cell? ⟨ob, 1, none⟩ = some (.int .i64 p.s) := by rw [cell_of_row _ _ _ _ _ _ ro]; rfl
                            have d2 : wo.cell? ⟨ob, 2, none⟩ = some (.int .u32 (p.x : Int)) := by rw [cell_of_row _ _ _ _ _ _ ro]; rfl
                            have d3 : wo.cell? ⟨ob, 3, none⟩ = some (.int .i64 p.y) := by rw [cell_of_row _ _ _ _ _ _ ro]; rfl
                            have d4 : wo.cell? ⟨ob, 4, none⟩ = some (.int .u32 (p.A : Int)) := by rw [cell_of_row _ _ _ _ _ _ ro]; rfl
                            have d5 : wo.cell? ⟨ob, 5, none⟩ = some (.int .i64 p.a) := by rw [cell_of_row _ _ _ _ _ _ ro]; rfl
                            have y0 : wo.cell? ⟨ax, 0, none⟩ = some (.pointer (some ⟨tb, 0, none⟩)) := by rw [cell_of_row _ _ _ _ _ _ hro.ra]; rfl
                            have y1 : wo.cell? ⟨bx, 0, none⟩ = some (.pointer (some ⟨rb, 0, none⟩)) := by rw [cell_of_row _ _ _ _ _ _ hro.rr]; rfl
                            have HPL := hid (hIo.play (s := p.s) (y := p.y) (a := p.a) HPW.out (k := 4) (by omega) hok.1 hok.2.1)
                            unfold oCells at HPL
                            rw [HOB.out] at d0 d1 d2 d3 d4 d5
                            rw [HWO.out] at d0 d1 d2 d3 d4 d5 y0 y1 HPL
                            clear hbo ro hIo hro hok hmem hg hk4 hkk hrw2 hnr
                            gi_wp2
                            refine ⟨trivial, ?_⟩
                            have hCI : CallsIn (Fence.wide.inRound l) (7 - 1) Try.prog 30 _ _ _ := (callsIn_wide (n := 7 - 1)).2 HPL.out
                            refine hCI.mono ?_
                            rintro _ w7 ⟨rfl, hI7⟩
                            have HI7 := hid hI7
                            clear hI7 d0 d1 d2 d3 d4 d5 y0 y1 c0 c1 c2 c3 c4 c5 HPL
                            clear hqi hql hi4 b4 b5 nc ac HQ
                            gi_wp2
                            go_roundw
                            case rel => exact ⟨j + 1, by go_num, by omega, HI7⟩
                            case measure => simp [intOf]; omega
                          · have z1 : ¬ p.k = 1 := hk1
                            have z2 : ¬ p.k = 2 := hk2
                            have z5 : ¬ p.k = 4 := hk4
                            have z3 : (p.k == 1) = false := by simp [hk1]
                            have z4 : (p.k == 2) = false := by simp [hk2]
                            have z6 : (p.k == 4) = false := by simp [hk4]
                            obtain ⟨wo, HWO⟩ : ∃ wo, Hid (wo = wr.alloc (.cells #[.int .i64 p.k, .int .i64 p.s, .int .u32 (p.x : Int), .int .i64 p.y, .int .u32 (p.A : Int), .int .i64 p.a] 71)) := ⟨_, rfl⟩
                            obtain ⟨ob, HOB⟩ : ∃ ob, Hid (ob = wr.heap.size) := ⟨_, rfl⟩
                            have hbo : Below wr.heap.size wr wo := by rw [HWO.out]; exact (Below.refl _ _).alloc (Nat.le_refl _) _
                            have ro : wo.heap[ob]? = some (.cells #[.int .i64 p.k, .int .i64 p.s, .int .u32 (p.x : Int), .int .i64 p.y, .int .u32 (p.A : Int), .int .i64 p.a] 71) := by rw [HWO.out, HOB.out]; exact heap_alloc_new wr _
                            have d0 : wo.cell? ⟨ob, 0, none⟩ = some (.int .i64 p.k) := by rw [cell_of_row _ _ _ _ _ _ ro]; rfl
                            have HI7 := hid (HIP.out.below hbo)
                            rw [HOB.out] at d0
                            rw [HWO.out] at d0
                            clear hbo ro hok hmem hg hrw2 hnr
                            gi_wp2
                            refine ⟨trivial, ?_⟩
                            rw [← HWO.out]
                            clear hqi hql hi4 b4 b5 nc ac HQ d0 c0 c1 c2 c3 c4 c5
                            gi_wp2
                            go_roundw
                            case rel => exact ⟨j + 1, by go_num, by omega, HI7⟩
                            case measure => simp [intOf]; omega
                    · have b4 : ¬ (q : Int) < (na : Int) := by omega
                      clear hrw2 hnr
                      have hnw : wr.heap[nb1]? = some (.cells #[.int .i64 (i : Int)] 3) := HIP.out.fr.cells HJ.out.nx (by decide)
                      have nc : wr.cell? ⟨nb1, 0, none⟩ = some (.int .i64 (i : Int)) := by rw [cell_of_row _ _ _ _ _ _ hnw]; rfl
                      have nf : wr.frozen? ⟨nb1, 0, none⟩ = false := frozen_of_row _ _ _ _ _ hnw
                      have HFIN := hid (HJ.out.next (W' := wr.setCell ⟨nb1, 0, none⟩ (.int .i64 ((i : Int) + 1))) HIP.out (.inr rfl) HLO1.out (Array.getElem?_eq_some_iff.1 HNU1.out).1 (But.set _ _ _ _) (by rw [set_row hnw]; rfl))
                      clear hnw
                      gi_wp2
                      exact HFIN.out
                  · have b1 : ¬ (j : Int) < 3 := by omega
                    have hnw : wr.heap[nb1]? = some (.cells #[.int .i64 (i : Int)] 3) := HIP.out.fr.cells HJ.out.nx (by decide)
                    have nc : wr.cell? ⟨nb1, 0, none⟩ = some (.int .i64 (i : Int)) := by rw [cell_of_row _ _ _ _ _ _ hnw]; rfl
                    have nf : wr.frozen? ⟨nb1, 0, none⟩ = false := frozen_of_row _ _ _ _ _ hnw
                    have HFIN := hid (HJ.out.next (W' := wr.setCell ⟨nb1, 0, none⟩ (.int .i64 ((i : Int) + 1))) HIP.out (.inr rfl) HLO1.out (Array.getElem?_eq_some_iff.1 HNU1.out).1 (But.set _ _ _ _) (by rw [set_row hnw]; rfl))
                    clear hnw
                    gi_wp2
                    exact HFIN.out
              case done1 =>
                rintro D1 W hD hj hK
                have hrw := HRU1.out.ami HNU1.out hj
                have hbw := hj.cells HBU1.out (kinds_ne HBU1.out HNU1.out (by decide)) (by decide)
                have hnx := hj.nx
                rw [← HNE1.out] at hnx
                have n0 : W.cell? ⟨nb1, 0, none⟩ = some (.int .i64 (nE1 : Int)) := by rw [cell_of_row _ _ _ _ _ _ hnx]; rfl
                have w0 : W.cell? ⟨bw1, 0, none⟩ = some (.slice aE1 nE1 cE1) := by rw [cell_of_row _ _ _ _ _ _ hbw]; rfl
                have HA2 := hid hj.am
                have HR2 := hid hrw
                have HK1 := hid hK
                have HDS1 : Hid (w.heap.size + 2 < D1 ∧ U1.heap.size ≤ D1) := ⟨Nat.lt_of_lt_of_le HSZ1.out.1 hD, hD⟩
                have hD0W := hj.fr D0 _ HD0U.out (fun e => by rw [e, HNU1.out] at HD0U; exact absurd HD0U.out (by simp)) (.inr (fixed_other rfl))
                have HDN : Hid (D1 ≠ D0) := by have h1 := (Array.getElem?_eq_some_iff.1 HD0U.out).1; unfold Hid; omega
                have HD0W := hid hD0W
                clear hrw hbw hnx hj hK hD hD0W
                have rs0 : W.cell? ⟨w.heap.size + 2, 0, none⟩ = some (.bool false) := by rw [cell_of_row _ _ _ _ _ _ HR2.out.rs]; rfl
                have rsf : W.frozen? ⟨w.heap.size + 2, 0, none⟩ = false := frozen_of_row _ _ _ _ _ HR2.out.rs
                obtain ⟨Y2, hY2⟩ : ∃ Y2, Y2 = W.setCell ⟨w.heap.size + 2, 0, none⟩ (.bool true) := ⟨_, rfl⟩
                have bt : But (w.heap.size + 2) W Y2 := by rw [hY2]; exact But.set _ _ _ _
                have RS : Hid (Y2.heap[w.heap.size + 2]? = some (.cells #[.bool true] 4)) := by rw [hY2]; exact set_row HR2.out.rs
                have HBY : Hid (Below w.heap.size w Y2) := bt.below HA2.out.bel HA2.out.bel.size (by omega)
                have E0 : Hid (Y2.heap[D0]? = some (.deferred (some []))) := (bt.block _ (Array.getElem?_eq_some_iff.1 HD0W.out).1 (by have := HDS0.out.1; omega)).trans HD0W.out
                have E1 : Hid (Y2.heap[D1]? = some (.deferred (some []))) := (bt.block _ (Array.getElem?_eq_some_iff.1 HK1.out).1 (by have := HDS1.out.1; omega)).trans HK1.out
                have HY2 := hid hY2
                clear hY2 bt
                go_wp2_with fail
                rw [rounds_succ]
                go_wp2_with fail
                rw [← HY2.out]
                have hK0 := E0.out
                have hK1 := E1.out
                have hne : D1 ≠ D0 := HDN.out
                have hK0' : (Y2.putObj D1 (.deferred none)).heap[D0]? = some (.deferred (some [])) := (World.putObj_heap_other (fun e => hne e.symm)).trans hK0
                have hf1 : Below w.heap.size w (Y2.putObj D1 (.deferred none)) := HBY.out.trans (belowK_b (w := w) (Nat.le_refl _) Y2 D1 _ _ (by have := HDS1.out.1; omega) hK1 rfl rfl)
                have hf0 : Below w.heap.size w ((Y2.putObj D1 (.deferred none)).putObj D0 (.deferred none)) := hf1.trans (belowK_b (w := w) (Nat.le_refl _) _ D0 _ _ (by have := HDS0.out.1; omega) hK0' rfl rfl)
                have rz : ((Y2.putObj D1 (.deferred none)).putObj D0 (.deferred none)).heap[w.heap.size + 2]? = some (.cells #[.bool true] 4) := (World.putObj_heap_other (by have := HDS0.out.1; omega)).trans ((World.putObj_heap_other (by have := HDS1.out.1; omega)).trans RS.out)
                have g0 : ((Y2.putObj D1 (.deferred none)).putObj D0 (.deferred none)).cell? ⟨w.heap.size + 2, 0, none⟩ = some (.bool true) := by rw [cell_of_row _ _ _ _ _ _ rz]; rfl
                refine ⟨by simp, .inl ⟨_, _, rfl, run_takeDeferred hK1, by simp, .inl ⟨_, _, rfl, run_takeDeferred hK0', ?_⟩⟩⟩
                exact ⟨_, (by simp [results, Try.results18, go_sem, g0]), rfl, hf0⟩
              case stop1 =>
                rintro D c W hD h hK
                exact h.elim
          case stop0 =>
            rintro D c W hD h hK
            exact h.elim
end Go.Proofs.Ytmnafocmbcgdiab

/-
  Lists of steps that come in.
-/
namespace Go.Proofs.Ytmnafocmbcgdiab
open Go.ChangeShapes Go.WideShapes Go.ChangeAt Go.RowKit Tri N
set_option maxHeartbeats 1000000
set_option maxRecDepth 100000

theorem wf64 {a : Int} (h : (Lit.int .i64 a).wf = true) : In64 a := by
  have h' : (decide (IntKind.i64.min ≤ a) && decide (a ≤ IntKind.i64.max)) = true := h
  rw [show IntKind.i64.min = -9223372036854775808 from by decide +kernel, show IntKind.i64.max = 9223372036854775807 from by decide +kernel] at h'
  simp at h'
  exact ⟨h'.1, h'.2⟩

theorem u32_wf {a : Int} (h : (Lit.int .u32 a).wf = true) : ∃ n : Nat, a = (n : Int) ∧ n < 4294967296 := by
  have h' : (decide (IntKind.u32.min ≤ a) && decide (a ≤ IntKind.u32.max)) = true := h
  rw [show IntKind.u32.min = 0 from by decide +kernel, show IntKind.u32.max = 4294967295 from by decide +kernel] at h'
  simp at h'
  exact ⟨a.toNat, by omega, by omega⟩

theorem add_plain (g off i : Nat) : (⟨g, off, none⟩ : Addr).add i = ⟨g, off + i, none⟩ := by simp [Addr.add]
theorem cellsOp : Try.prog.cellsOf 71 = 6 := by kernel_rfl
theorem cellsPre : Try.prog.cellsOf 31 = 2 := by kernel_rfl
theorem cellsAdr : Try.prog.cellsOf 29 = 1 := by kernel_rfl
theorem cellsInt : Try.prog.cellsOf 3 = 1 := by kernel_rfl
theorem bytesOp : Try.prog.bytesOf 71 = 48 := by kernel_rfl

theorem open_os {H : Type} {enc : TypeId × Value → H} {W : World} {base : Nat} {v : Value} {d : DataW H} {ps : List MemPlace} (hval : Value.okWide Try.prog W .any base 42 v) (h : DataW.Trod enc Try.prog W 0 (fun _ => true) true 42 v d ps) :
    ∃ L, SeesO W v L ∧ (∀ o ∈ L, o.Ok) ∧ (L ≠ [] → ∃ es sp, d = .slice es sp ∧ es.length = L.length) := by
  obtain ⟨a0, len, cap, rfl⟩ := okWide_slice Try.underlying42 hval
  obtain ⟨fuel, hf⟩ := h
  rcases Go.Deep.open_slice Try.underlying42 hf with ⟨h1, _⟩ | ⟨a, len', cap', m, n, D, Pl, h1, _, hlc, hcm, hm, hd, hx⟩
  · simp [Value.cells] at h1
    obtain ⟨rfl, rfl, rfl⟩ := h1
    exact ⟨[], ⟨none, 0, rfl, by simp, by unfold maxLen; omega, fun j hj => absurd hj (by simp)⟩, fun o ho => absurd ho (by simp), fun h => absurd rfl h⟩
  · simp [Value.cells] at h1
    obtain ⟨rfl, rfl, rfl⟩ := h1
    simp at hm
    subst hm
    have key : ∀ i, i < len → ∃ q : O, q.Ok ∧ W.cell? ((a.add (i * 6)).add 0) = some (.int .i64 q.k) ∧ W.cell? ((a.add (i * 6)).add 1) = some (.int .i64 q.s) ∧ W.cell? ((a.add (i * 6)).add 2) = some (.int .u32 (q.x : Int)) ∧ W.cell? ((a.add (i * 6)).add 3) = some (.int .i64 q.y) ∧ W.cell? ((a.add (i * 6)).add 4) = some (.int .u32 (q.A : Int)) ∧ W.cell? ((a.add (i * 6)).add 5) = some (.int .i64 q.a) := by
      intro i hi
      obtain ⟨cs', k1, k2⟩ := hx i (by omega)
      rw [cellsOp] at k1
      obtain ⟨_, hlen, hc⟩ := World.cells?_some k1
      obtain ⟨xs, k, _, _, _, hxl, hff⟩ := DataW.trod_struct Try.underlying71 k2
      match xs, hxl, cs', hlen with
      | [y0, y1, y2, y3, y4], _, [v0, v1, v2, v3, v4, v5], _ =>
        have g0 := hff 0 _ rfl
        have g1 := hff 1 _ rfl
        have g2 := hff 2 _ rfl
        have g3 := hff 3 _ rfl
        have g4 := hff 4 _ rfl
        simp [cellsInt, cellsPre, cellsAdr] at g0 g1 g2 g3 g4
        obtain ⟨n0, e0, _, w0⟩ := DataW.trod_int Try.underlying3 g0
        obtain ⟨n1, e1, _, w1⟩ := DataW.trod_int Try.underlying3 g1
        obtain ⟨xs2, k2, _, _, _, hxl2, hff2⟩ := DataW.trod_struct Try.underlying31 g2
        obtain ⟨n4, e4, _, w4⟩ := DataW.trod_int Try.underlying29 g3
        obtain ⟨n5, e5, _, w5⟩ := DataW.trod_int Try.underlying3 g4
        match xs2, hxl2 with
        | [z0, z1], _ =>
          have f0 := hff2 0 _ rfl
          have f1 := hff2 1 _ rfl
          simp [cellsInt, cellsAdr] at f0 f1
          obtain ⟨n2, e2, _, w2⟩ := DataW.trod_int Try.underlying29 f0
          obtain ⟨n3, e3, _, w3⟩ := DataW.trod_int Try.underlying3 f1
          simp at e0 e1 e2 e3 e4 e5
          subst e0 e1 e2 e3 e4 e5
          obtain ⟨x, rfl, hx⟩ := u32_wf w2
          obtain ⟨A, rfl, hA⟩ := u32_wf w4
          exact ⟨⟨n0, n1, x, n3, A, n5⟩, ⟨hx, hA, wf64 w5, wf64 w1⟩, hc 0 (by omega), hc 1 (by omega), hc 2 (by omega), hc 3 (by omega), hc 4 (by omega), hc 5 (by omega)⟩
    have hch : ∃ F : Nat → O, ∀ i, i < len → (F i).Ok ∧ W.cell? ((a.add (i * 6)).add 0) = some (.int .i64 (F i).k) ∧ W.cell? ((a.add (i * 6)).add 1) = some (.int .i64 (F i).s) ∧ W.cell? ((a.add (i * 6)).add 2) = some (.int .u32 ((F i).x : Int)) ∧ W.cell? ((a.add (i * 6)).add 3) = some (.int .i64 (F i).y) ∧ W.cell? ((a.add (i * 6)).add 4) = some (.int .u32 ((F i).A : Int)) ∧ W.cell? ((a.add (i * 6)).add 5) = some (.int .i64 (F i).a) := by
      refine ⟨fun i => if h : i < len then (key i h).choose else ⟨0, 0, 0, 0, 0, 0⟩, fun i hi => ?_⟩
      simp only [dif_pos hi]
      exact (key i hi).choose_spec
    obtain ⟨F, hF⟩ := hch
    refine ⟨(List.range len).map F, ⟨some a, m, by simp, by simpa using hlc, hcm, fun j hj => ?_⟩, fun o ho => ?_, fun _ => ?_⟩
    · have hj' : j < len := by simpa using hj
      have hsp : ∃ g off, a = ⟨g, off, none⟩ ∧ g < W.heap.size := by
        obtain ⟨_, z0, _⟩ := hF 0 (by omega)
        have e : (a.add (0 * 6)).add 0 = a := by simp [Addr.add]
        rw [e] at z0
        have hlt := World.block_lt_of_cell? W a z0
        obtain ⟨g, off, sp⟩ := a
        cases sp with
        | none => exact ⟨g, off, rfl, hlt⟩
        | some s =>
          exfalso
          simp only [World.cell?] at z0
          split at z0 <;> simp at z0
      obtain ⟨g, off, rfl, hg⟩ := hsp
      obtain ⟨_, c0, c1, c2, c3, c4, c5⟩ := hF j hj'
      simp only [add_plain, Nat.add_zero] at c0 c1 c2 c3 c4 c5
      refine ⟨g, off, rfl, hg, ?_, ?_, ?_, ?_, ?_, ?_⟩ <;> simp <;> assumption
    · obtain ⟨i, hi, rfl⟩ := List.mem_map.1 ho
      exact (hF i (by simpa using hi)).1
    · exact ⟨_, _, by first | exact hd | exact hd.1 | exact congrArg Prod.fst hd, by simp⟩
end Go.Proofs.Ytmnafocmbcgdiab

/-
  TrieAmid's own walk, and a prefix that comes in.
-/
namespace Go.Proofs.Ytmnafocmbcgdiab
open Go.ChangeShapes Go.WideShapes Go.ChangeAt Go.RowKit Tri N
set_option maxHeartbeats 1000000
set_option maxRecDepth 100000

theorem open_pr {H : Type} {enc : TypeId × Value → H} {W : World} {base : Nat} {v : Value} {d : DataW H} {ps : List MemPlace} (hval : Value.okWide Try.prog W .any base 31 v) (h : DataW.Trod enc Try.prog W 0 (fun _ => true) true 31 v d ps) :
    ∃ (x : Nat) (y : Int), v = .agg #[.int .u32 (x : Int), .int .i64 y] ∧ x < 4294967296 := by
  obtain ⟨cs, rfl, _⟩ := okWide_struct Try.underlying31 hval
  obtain ⟨fuel, hf⟩ := h
  obtain ⟨xs, n, _, _, hl, hxl, hff⟩ := DataW.trod_struct Try.underlying31 hf
  obtain ⟨cl⟩ := cs
  simp only [Value.cells] at hl hff
  rw [cellsPre] at hl
  match xs, hxl, cl, hl with
  | [y0, y1], _, [v0, v1], _ =>
    have f0 := hff 0 _ rfl
    have f1 := hff 1 _ rfl
    simp [cellsInt, cellsAdr] at f0 f1
    obtain ⟨n0, e0, _, w0⟩ := DataW.trod_int Try.underlying29 f0
    obtain ⟨n1, e1, _, w1⟩ := DataW.trod_int Try.underlying3 f1
    simp at e0 e1
    subst e0 e1
    obtain ⟨x, rfl, hx⟩ := u32_wf w0
    exact ⟨x, n1, rfl, hx⟩

theorem seesO_below {w w' : World} {v : Value} {L : List O} (h : SeesO w v L) (hb : Below w.heap.size w w') : SeesO w' v L := by
  obtain ⟨base, cap, rfl, h1, h2, h3⟩ := h
  refine ⟨base, cap, rfl, h1, h2, fun j hj => ?_⟩
  obtain ⟨g, off, e, hg, c0, c1, c2, c3, c4, c5⟩ := h3 j hj
  refine ⟨g, off, e, Nat.lt_of_lt_of_le hg hb.size, ?_, ?_, ?_, ?_, ?_, ?_⟩ <;> (rw [hb.cell hg]; assumption)

theorem amid_walk (v0 v3 : Value) (Os As : List O) (x : Nat) (y : Int) (w : World) (hs0 : SeesO w v0 Os) (hk0 : ∀ o ∈ Os, o.Ok) (hs3 : SeesO w v3 As) (hk3 : ∀ o ∈ As, o.Ok) (hx : x < 4294967296) :
    Calls Try.prog 4 #[v0, .agg #[.int .u32 (x : Int), .int .i64 y], v3] w fun e w' => e = .returned (.bool true) ∧ Below w.heap.size w w' := by
  obtain ⟨ao, no, co, rfl, HNO, hno1, hno2⟩ := hs0.shape
  obtain ⟨aa, na, ca, rfl, HNA, hna1, hna2⟩ := hs3.shape
  obtain ⟨w1, HW1⟩ : ∃ w1, Hid (w1 = w.alloc (.cells #[.int .u32 (x : Int), .int .i64 y] 31)) := ⟨_, rfl⟩
  have hb1 : Below w.heap.size w w1 := by rw [HW1.out]; exact (Below.refl _ _).alloc (Nat.le_refl _) _
  have r0 : w1.heap[w.heap.size]? = some (.cells #[.int .u32 (x : Int), .int .i64 y] 31) := by rw [HW1.out]; exact heap_alloc_new w _
  have HC1 := hid (amidst_any false (.slice ao no co) (.slice aa na ca) Os As x y w1 (seesO_below hs0 hb1) hk0 (seesO_below hs3 hb1) hk3 hx)
  have HC2 : ∀ u, Below w1.heap.size w1 u → Hid (Calls Try.prog 18 #[.slice ao no co, .bool true, .agg #[.int .u32 (x : Int), .int .i64 y], .slice aa na ca] u fun e w' => e = .returned (.bool true) ∧ Below u.heap.size u w') := fun u hu =>
    hid (amidst_any true _ _ Os As x y u (seesO_below hs0 (hb1.trans (hu.mono hb1.size))) hk0 (seesO_below hs3 (hb1.trans (hu.mono hb1.size))) hk3 hx)
  have hlt := (Array.getElem?_eq_some_iff.1 r0).1
  obtain ⟨c0, c1⟩ : w1.cell? ⟨w.heap.size, 0, none⟩ = some (.int .u32 (x : Int)) ∧ w1.cell? ⟨w.heap.size, 1, none⟩ = some (.int .i64 y) := ⟨by rw [cell_of_row _ _ _ _ _ _ r0]; rfl, by rw [cell_of_row _ _ _ _ _ _ r0]; rfl⟩
  clear HNO HNA hs0 hs3
  go_enter Try.func4, Try.ntmps4
  go_wp2_with fail
  rw [← HW1.out]
  go_wp2_with fail
  refine HC1.out.mono ?_
  rintro _ w2 ⟨rfl, hb2⟩
  have r0' := below_keeps hb2 r0 hlt
  obtain ⟨d0, d1⟩ : w2.cell? ⟨w.heap.size, 0, none⟩ = some (.int .u32 (x : Int)) ∧ w2.cell? ⟨w.heap.size, 1, none⟩ = some (.int .i64 y) := ⟨by rw [cell_of_row _ _ _ _ _ _ r0']; rfl, by rw [cell_of_row _ _ _ _ _ _ r0']; rfl⟩
  have H2 := HC2 w2 hb2
  clear r0 r0' HC2 hlt
  go_wp2_with fail
  refine H2.out.mono ?_
  rintro _ w3 ⟨rfl, hb3⟩
  go_wp2_with fail
  go_ret
  exact ⟨rfl, (hb1.trans (hb2.mono hb1.size)).trans (hb3.mono (Nat.le_trans hb1.size hb2.size))⟩
end Go.Proofs.Ytmnafocmbcgdiab
