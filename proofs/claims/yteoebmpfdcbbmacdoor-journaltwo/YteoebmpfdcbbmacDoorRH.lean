/-
  The reference's Read.
-/
import Derived.Test.YteoebmpfdcbbmacDoorRG
namespace Go.Proofs.YteoebmpfdcbbmacDoor
open Go.ChangeShapes Go.WideShapes Go.ChangeAt Go.RowKit Jn N
set_option maxHeartbeats 16000000
set_option maxRecDepth 100000

theorem arR_put {u : World} {b st g fin : Nat} {vr : Value} (h : u.heap[b]? = some (arRow st g vr fin)) (x0 x1 x2 x3 : Value) :
    ((((u.setCell ⟨b, 0, none⟩ x0).setCell ⟨b, 1, none⟩ x1).setCell ⟨b, 2, none⟩ x2).setCell ⟨b, 3, none⟩ x3).heap[b]? = some (.cells #[x0, x1, x2, x3] 81 (0, 0)) ∧ Keeps (At1 b) u ((((u.setCell ⟨b, 0, none⟩ x0).setCell ⟨b, 1, none⟩ x1).setCell ⟨b, 2, none⟩ x2).setCell ⟨b, 3, none⟩ x3) := by
  unfold arRow at h
  refine ⟨?_, (((((Keeps.refl (At1 b) u).set ⟨b, 0, none⟩ rfl x0).set ⟨b, 1, none⟩ rfl x1).set ⟨b, 2, none⟩ rfl x2).set ⟨b, 3, none⟩ rfl x3)⟩
  rw [set_cells (set_cells (set_cells (set_cells h)))]
  rfl
theorem numR (v : Value) (b : List Nat) (w u : World) (hv : SeesB w v b) (hb : Below w.heap.size w u) (z : Int) (i : Nat) (hz : z = i) (hi : i + 4 ≤ b.length) :
    Calls Tryd.prog 64 #[v, .int .i64 z] u fun e w' => e = .returned (.int .i64 ((num b i : Nat) : Int)) ∧ Below u.heap.size u w' := by
  subst hz
  exact numberR_any v b i u (hv.below hb) hi
theorem Rdg.done {w u U : World} {ab g : Nat} {vr : Value} {recs : List (List Nat)} {fin : Nat} (h : Rdg w u w.heap.size ab g vr recs fin) (hk : Keeps (At1 w.heap.size) u U) : Below w.heap.size w U ∧ SeesBB U vr recs := by
  refine ⟨hk.below h.be h.be.size (fun k hk e => by unfold At1 at e; omega), ?_⟩
  obtain ⟨Vs, C, h1, h2, h3, h4⟩ := h.own
  have hr := h.rrow
  unfold arRow at hr
  refine own_seesS (h1.keeps hk (fun k e e' => ?_)) h2 (fun i x r hx hr' => ((h3 i x r hx hr').keeps hk (fun k hc e' => ?_)).1)
  · unfold At1 at e'
    exact h1.ne_of hr (by decide) (by rw [e, e'])
  · unfold At1 at e'
    exact (h4 k hc).2.2.1 e'
theorem field_ar (b : Nat) (u : World) : (Instr.fieldAt 81 (.pointer (some ⟨b, 0, none⟩)) 1).run Tryd.prog u = .ok (.pointer (some ⟨b, 1, none⟩)) u ∧ (Instr.fieldAt 81 (.pointer (some ⟨b, 0, none⟩)) 2).run Tryd.prog u = .ok (.pointer (some ⟨b, 2, none⟩)) u := ⟨by kernel_rfl, by kernel_rfl⟩
theorem load_sB {u : World} {p : Addr} {ao : Option Addr} {n c : Nat} (h : u.cell? p = some (.slice ao n c)) : (Instr.loadAt 38 (.pointer (some p))).run Tryd.prog u = .ok (.slice ao n c) u := by
  simp [go_sem, h]
theorem ex_lenS {o : Oper} {a : Act} {w : World} (t : Nat) (ao : Option Addr) (n c : Nat) (ho : o.op = .call { callee := .builtin .len, args := #[.tmp t], argTypes := #[38] }) (hx : a.eval (.tmp t) = .slice ao n c) : (execOp a.eval o).run Tryd.prog w = .ok (.value (.int .i64 (n : Int))) w := by
  have hx' : a.tmps[t]?.getD undef = .slice ao n c := by simpa [Act.eval] using hx
  simp only [execOp, ho]
  simp [hx', go_sem]
theorem ex_addI {o : Oper} {a : Act} {w : World} (x y : Operand) (i j : Int) (ho : o.op = .binOp .add 3 x y 3) (hx : a.eval x = .int .i64 i) (hy : a.eval y = .int .i64 j) (h1 : -9223372036854775808 ≤ i + j) (h2 : i + j < 9223372036854775808) : (execOp a.eval o).run Tryd.prog w = .ok (.value (.int .i64 (i + j))) w := by
  simp only [execOp, ho, hx, hy]
  simp [go_sem, eqGuard]
  rw [IntKind.wrap_i64]
  omega
theorem ex_sliceM {P : Program} {o : Oper} {a : Act} {w : World} (T : TypeId) (x y z : Operand) (s i m v : Value) (ho : o.op = .slice T x (some y) (some z) none) (hx : a.eval x = s) (hy : a.eval y = i) (hz : a.eval z = m) (hr : (Instr.sliceAt T s (some i) (some m) none).run P w = .ok v w) : (execOp a.eval o).run P w = .ok (.value v) w := by
  unfold execOp
  simp only [ho, hx, Option.map_some, Option.map_none, hy, hz, Sem.run_bind, hr, Result.andThen_ok, Sem.run_pure]
/-- What the operations of the third drawn region yield. -/
def F13 (ab g k fin : Nat) (vr vb v12 : Value) (L8 : List Nat) : Nat → Value → World → Prop := fun i v w =>
  match i with
  | 0 => v = .pointer (some ⟨ab, 1, none⟩)
  | 1 => v = .int .i64 (g : Int)
  | 2 => ∃ a m c, v = .slice a m c ∧ SeesB w (.slice a m c) (w4 g)
  | 3 => v = .pointer (some ⟨ab, 2, none⟩)
  | 4 => v = vr
  | 5 => v = .int .i64 (k : Int)
  | 6 => ∃ a m c, v = .slice a m c ∧ SeesB w (.slice a m c) (w4 k)
  | 7 => ∃ a m c, v = .slice a m c ∧ SeesB w (.slice a m c) (w4 g ++ w4 k)
  | 8 => v = vb
  | 9 => v = .int .i64 (fin : Int)
  | 10 => v = .int .i64 (fin : Int)
  | 11 => v = .int .i64 ((fin : Int) + 8)
  | 12 => v = v12
  | 13 => ∃ a m c, v = .slice a m c ∧ SeesB w (.slice a m c) (w4 g ++ w4 k ++ L8)
  | _ => True
theorem F13.keeps (ab g k fin : Nat) (vr vb v12 : Value) (L8 : List Nat) : ∀ (i : Nat) (v : Value) (w w' : World), F13 ab g k fin vr vb v12 L8 i v w → Below w.heap.size w w' → F13 ab g k fin vr vb v12 L8 i v w' := fun i v w w' h hb => by
  match i with
  | 0 | 1 | 3 | 4 | 5 | 8 | 9 | 10 | 11 | 12 => exact h
  | 2 | 6 | 7 | 13 => obtain ⟨a, m, c, e, hs⟩ := h; exact ⟨a, m, c, e, hs.below hb⟩
  | n + 14 => exact trivial
def finOf (u : World) (ab : Nat) : Nat := match u.cell? ⟨ab, 3, none⟩ with
  | some (.int _ z) => z.toNat
  | _ => 0

theorem readR_any (v : Value) (b : List Nat) (w : World) (hv : SeesB w v b) :
    Calls Tryd.prog 41 #[v] w fun e w' => ∃ v', e = .returned v' ∧ ArC w w' v' (rdA b) := by
  obtain ⟨C, HC⟩ : ∃ C, Hid (C = rdA b) := ⟨_, rfl⟩
  rw [← HC.out]
  obtain ⟨ao, n, cap, rfl, HN, hn1, hn2⟩ := hv.shape
  unfold maxLen at hn2
  have HV := hid hv
  obtain ⟨w1, HW1⟩ : ∃ w1, Hid (w1 = w.alloc (.cells #[.int .i64 0, .int .i64 0, .slice none 0 0, .int .i64 0] 81)) := ⟨_, rfl⟩
  have hb1 : Below w.heap.size w w1 := by rw [HW1.out]; exact (Below.refl _ _).alloc (Nat.le_refl _) _
  have hs1 : w1.heap.size = w.heap.size + 1 := by rw [HW1.out]; simp
  have r1 : w1.heap[w.heap.size]? = some (arRow 0 0 (.slice none 0 0) 0) := by rw [HW1.out]; exact heap_alloc_new w _
  obtain ⟨e0, e1, e2, e3, ef⟩ := ar_cellsR r1
  have HB1 := hid hb1
  have R1 := hid r1
  clear hv hb1 r1
  by_cases h16 : n < 16
  · have HE : Hid (C = ⟨0, 0, [], 0⟩) := by unfold Hid; rw [HC.out, rdA, if_pos (by have := HN.out; omega)]
    go_enter Tryd.func41, Tryd.ntmps41
    go_upto_region 1 with fail
    rw [← HW1.out]
    go_wp2_with fail
    obtain ⟨hU, hkU⟩ := arR_put R1.out (.int .i64 0) (.int .i64 0) (.slice none 0 0) (.int .i64 0)
    generalize ((((w1.setCell ⟨w.heap.size, 0, none⟩ (.int .i64 0)).setCell ⟨w.heap.size, 1, none⟩ (.int .i64 0)).setCell ⟨w.heap.size, 2, none⟩ (.slice none 0 0)).setCell ⟨w.heap.size, 3, none⟩ (.int .i64 0)) = U at *
    have z0 : U.cell? ⟨w.heap.size, 0, none⟩ = some (.int .i64 0) := by rw [cell_of_row _ _ _ _ _ _ hU]; rfl
    have z1 : U.cell? ⟨w.heap.size, 1, none⟩ = some (.int .i64 0) := by rw [cell_of_row _ _ _ _ _ _ hU]; rfl
    have z2 : U.cell? ⟨w.heap.size, 2, none⟩ = some (.slice none 0 0) := by rw [cell_of_row _ _ _ _ _ _ hU]; rfl
    have z3 : U.cell? ⟨w.heap.size, 3, none⟩ = some (.int .i64 0) := by rw [cell_of_row _ _ _ _ _ _ hU]; rfl
    refine bodyPost_ret (v := .agg #[.int .i64 0, .int .i64 0, (.slice none 0 0), .int .i64 0]) (by simp [results, Tryd.results41, go_sem, z0, z1, z2, z3]) rfl ⟨_, rfl, (.slice none 0 0), ?_, ?_, ?_⟩
    · rw [HE.out]; rfl
    · rw [HE.out]; exact seesBB_nil _
    · exact hkU.below HB1.out (HB1.out).size (fun k hk e => by unfold At1 at e; omega)
  · obtain ⟨m0, HM0⟩ : ∃ m0, Hid (m0 = num b 0) := ⟨_, rfl⟩
    obtain ⟨m4, HM4⟩ : ∃ m4, Hid (m4 = num b 4) := ⟨_, rfl⟩
    obtain ⟨m8, HM8⟩ : ∃ m8, Hid (m8 = num b 8) := ⟨_, rfl⟩
    obtain ⟨m12, HM12⟩ : ∃ m12, Hid (m12 = num b 12) := ⟨_, rfl⟩
    obtain ⟨cs, HCS⟩ : ∃ cs, Hid (cs = crc (b.take 12)) := ⟨_, rfl⟩
    have hm4 : m4 < 4294967296 := by rw [HM4.out]; exact num_lt HV.out.bytes 4
    obtain ⟨ah, HSH, hcut⟩ := (HV.out.below HB1.out).high 12 (12 : Int) rfl (by omega)
    have HNUM : ∀ (t : Beh w1) (z x : Int), (z = 0 ∧ x = (m0 : Int) ∨ z = 12 ∧ x = (m12 : Int) ∨ z = 8 ∧ x = (m8 : Int)) → Calls Tryd.prog 64 #[.slice ao n cap, .int .i64 z] t.wd fun e w' => e = .returned (.int .i64 x) ∧ ∃ t' : Beh w1, w' = t'.wd := fun t z x h => by
      have hl := HN.out
      rcases h with ⟨rfl, rfl⟩ | ⟨rfl, rfl⟩ | ⟨rfl, rfl⟩
      · rw [HM0.out]; exact Calls.beh (numR _ b w1 t.wd (HV.out.below HB1.out) t.ok 0 0 rfl (by omega))
      · rw [HM12.out]; exact Calls.beh (numR _ b w1 t.wd (HV.out.below HB1.out) t.ok 12 12 rfl (by omega))
      · rw [HM8.out]; exact Calls.beh (numR _ b w1 t.wd (HV.out.below HB1.out) t.ok 8 8 rfl (by omega))
    have HCRC : ∀ (t : Beh w1), Hid (Calls Tryd.prog 65 #[.slice ah 12 cap] t.wd fun e w' => e = .returned (.int .i64 (cs : Int)) ∧ ∃ t' : Beh w1, w' = t'.wd) := fun t => (crcR_any _ (b.take 12) t.wd (HSH.out.below t.ok)).mono fun _ _ ⟨a, b⟩ => ⟨by rw [a, HCS.out], t, b⟩
    have HHD : Hid (headOk b = (m0 == 2003134068 && m12 == cs && decide (m8 ≤ 1048560))) := by unfold Hid headOk; rw [HM0.out, HM12.out, HCS.out, HM8.out]
    by_cases hbig : 1048576 < n
    · as_aux_lemma =>
        have HE : Hid (C = ⟨1, 0, [], 0⟩) := by
          unfold Hid
          rw [HC.out, rdA, if_neg (by have := HN.out; omega), if_pos (.inl (by have := HN.out; omega))]
        have q1 : (1048576 : Int) < (n : Int) := by omega
        clear HHD
        go_enter Tryd.func41, Tryd.ntmps41
        go_upto_region 3 with fail
        rw [← HW1.out]
        refine wp_region_beh (by kernel_rfl) (by kernel_rfl) ?_
        repeat (go_big_quiet_step (first | (go_at_call 64; apply HNUM; first | exact .inl ⟨rfl, rfl⟩ | exact .inr (.inl ⟨rfl, rfl⟩) | exact .inr (.inr ⟨rfl, rfl⟩)) | (go_at_call 65; exact (HCRC _).out)))
        refine wpQuiet_nil ?_
        rintro _ ⟨t, rfl⟩
        have hrt := below_keeps t.ok R1.out (Array.getElem?_eq_some_iff.1 R1.out).1
        obtain ⟨g0, g1, g2, g3, gf⟩ := ar_cellsR hrt
        have HRT := hid hrt
        have HBT : Hid (Below w.heap.size w t.wd) := HB1.out.trans (t.ok.mono HB1.out.size)
        have hst : w.heap.size < t.wd.heap.size := (Array.getElem?_eq_some_iff.1 hrt).1
        obtain ⟨W2, hW2⟩ : ∃ W2, W2 = t.wd := ⟨_, rfl⟩
        rw [← hW2] at g0 g1 g2 g3 gf HRT HBT hst ⊢
        clear hrt hW2 HNUM HCRC
        go_wp2_with fail
        obtain ⟨hU, hkU⟩ := arR_put HRT.out (.int .i64 1) (.int .i64 0) (.slice none 0 0) (.int .i64 0)
        generalize ((((W2.setCell ⟨w.heap.size, 0, none⟩ (.int .i64 1)).setCell ⟨w.heap.size, 1, none⟩ (.int .i64 0)).setCell ⟨w.heap.size, 2, none⟩ (.slice none 0 0)).setCell ⟨w.heap.size, 3, none⟩ (.int .i64 0)) = U at *
        have z0 : U.cell? ⟨w.heap.size, 0, none⟩ = some (.int .i64 1) := by rw [cell_of_row _ _ _ _ _ _ hU]; rfl
        have z1 : U.cell? ⟨w.heap.size, 1, none⟩ = some (.int .i64 0) := by rw [cell_of_row _ _ _ _ _ _ hU]; rfl
        have z2 : U.cell? ⟨w.heap.size, 2, none⟩ = some (.slice none 0 0) := by rw [cell_of_row _ _ _ _ _ _ hU]; rfl
        have z3 : U.cell? ⟨w.heap.size, 3, none⟩ = some (.int .i64 0) := by rw [cell_of_row _ _ _ _ _ _ hU]; rfl
        refine bodyPost_ret (v := .agg #[.int .i64 1, .int .i64 0, (.slice none 0 0), .int .i64 0]) (by simp [results, Tryd.results41, go_sem, z0, z1, z2, z3]) rfl ⟨_, rfl, (.slice none 0 0), ?_, ?_, ?_⟩
        · rw [HE.out]; rfl
        · rw [HE.out]; exact seesBB_nil _
        · exact hkU.below HBT.out (HBT.out).size (fun k hk e => by unfold At1 at e; omega)
    · by_cases hk0 : m0 = 2003134068
      · by_cases hk12 : m12 = cs
        · by_cases hk8 : m8 ≤ 1048560
          · as_aux_lemma =>
              have hH : headOk b = true := by rw [HHD.out, hk0, hk12]; simp [hk8]
              obtain ⟨bs, HBS⟩ : ∃ bs, Hid (bs = 16 + m8) := ⟨_, rfl⟩
              have hbs : bs ≤ 1048576 := by have := HBS.out; omega
              have q1 : ¬ (1048576 : Int) < (n : Int) := by omega
              have q2 : ((m0 : Int) != 2003134068) = false := by simp; omega
              have q3 : ((m12 : Int) != (cs : Int)) = false := by simp; omega
              have q4 : ¬ (1048560 : Int) < (m8 : Int) := by omega
              have HN8 : Hid (∀ u, Below w1.heap.size w1 u → Calls Tryd.prog 64 #[.slice ao n cap, .int .i64 8] u fun e w' => e = .returned (.int .i64 (m8 : Int)) ∧ Below u.heap.size u w') := fun u hu => by rw [HM8.out]; exact numR _ b w1 u (HV.out.below HB1.out) hu 8 8 rfl (by have := HN.out; omega)
              have HN4 : Hid (∀ u, Below w1.heap.size w1 u → Calls Tryd.prog 64 #[.slice ao n cap, .int .i64 4] u fun e w' => e = .returned (.int .i64 (m4 : Int)) ∧ Below u.heap.size u w') := fun u hu => by rw [HM4.out]; exact numR _ b w1 u (HV.out.below HB1.out) hu 4 4 rfl (by have := HN.out; omega)
              have HRD0 : Hid (¬ n < bs → C = rd m4 bs (b.drop 16) [] 16 (16 == bs)) := fun h => by
                have h1 := HN.out
                have h2 := HBS.out
                rw [HC.out, rdA, if_neg (by omega), if_neg (by rw [hH]; simp; omega), if_neg (by rw [← HM8.out]; omega), ← HM4.out, ← HM8.out, h2]
              have HTORN : Hid (n < bs → C = ⟨2, 0, [], 0⟩) := fun h => by
                have h1 := HN.out
                have h2 := HBS.out
                rw [HC.out, rdA, if_neg (by omega), if_neg (by rw [hH]; simp; omega), if_pos (by rw [← HM8.out]; omega)]
              clear HHD hH
              go_enter Tryd.func41, Tryd.ntmps41
              go_upto_region 3 with fail
              rw [← HW1.out]
              refine wp_region_beh (by kernel_rfl) (by kernel_rfl) ?_
              repeat (go_big_quiet_step (first | (go_at_call 64; apply HNUM; first | exact .inl ⟨rfl, rfl⟩ | exact .inr (.inl ⟨rfl, rfl⟩) | exact .inr (.inr ⟨rfl, rfl⟩)) | (go_at_call 65; exact (HCRC _).out)))
              refine wpQuiet_nil ?_
              rintro _ ⟨t, rfl⟩
              obtain ⟨W2, hW2⟩ : ∃ W2, W2 = t.wd := ⟨_, rfl⟩
              have HB2 : Hid (Below w1.heap.size w1 W2) := by rw [hW2]; exact t.ok
              rw [← hW2]
              clear hW2 HNUM HCRC t hcut HSH e0 e1 e2 e3 ef
              have HF8 := hid (HN8.out W2 HB2.out)
              go_wp2_with fail
              refine HF8.out.mono ?_
              rintro _ W3 ⟨rfl, hb3⟩
              have HB3 : Hid (Below w1.heap.size w1 W3) := HB2.out.trans (hb3.mono HB2.out.size)
              have hr3 := below_keeps HB3.out R1.out (Array.getElem?_eq_some_iff.1 R1.out).1
              have HR3 := hid hr3
              have HBW3 : Hid (Below w.heap.size w W3) := HB1.out.trans (HB3.out.mono HB1.out.size)
              obtain ⟨g0, g1, g2, g3, gf⟩ := ar_cellsR hr3
              have hst : w.heap.size < W3.heap.size := (Array.getElem?_eq_some_iff.1 hr3).1
              have HBZ : Hid ((16 : Int) + (m8 : Int) = (bs : Int)) := by have := HBS.out; unfold Hid; omega
              clear hb3 hr3 HF8 HN8 HB2
              by_cases htn : n < bs
              · have HE : Hid (C = ⟨2, 0, [], 0⟩) := HTORN.out htn
                go_upto_region 6 with fail
                rw [HBZ.out]
                go_wp2_with fail
                obtain ⟨hU, hkU⟩ := arR_put HR3.out (.int .i64 2) (.int .i64 0) (.slice none 0 0) (.int .i64 0)
                generalize ((((W3.setCell ⟨w.heap.size, 0, none⟩ (.int .i64 2)).setCell ⟨w.heap.size, 1, none⟩ (.int .i64 0)).setCell ⟨w.heap.size, 2, none⟩ (.slice none 0 0)).setCell ⟨w.heap.size, 3, none⟩ (.int .i64 0)) = U at *
                have z0 : U.cell? ⟨w.heap.size, 0, none⟩ = some (.int .i64 2) := by rw [cell_of_row _ _ _ _ _ _ hU]; rfl
                have z1 : U.cell? ⟨w.heap.size, 1, none⟩ = some (.int .i64 0) := by rw [cell_of_row _ _ _ _ _ _ hU]; rfl
                have z2 : U.cell? ⟨w.heap.size, 2, none⟩ = some (.slice none 0 0) := by rw [cell_of_row _ _ _ _ _ _ hU]; rfl
                have z3 : U.cell? ⟨w.heap.size, 3, none⟩ = some (.int .i64 0) := by rw [cell_of_row _ _ _ _ _ _ hU]; rfl
                refine bodyPost_ret (v := .agg #[.int .i64 2, .int .i64 0, (.slice none 0 0), .int .i64 0]) (by simp [results, Tryd.results41, go_sem, z0, z1, z2, z3]) rfl ⟨_, rfl, (.slice none 0 0), ?_, ?_, ?_⟩
                · rw [HE.out]; rfl
                · rw [HE.out]; exact seesBB_nil _
                · exact hkU.below HBW3.out (HBW3.out).size (fun k hk e => by unfold At1 at e; omega)
              · have hRD := HRD0.out htn
                have HF4 := hid (HN4.out W3 HB3.out)
                go_upto_region 6 with fail
                rw [HBZ.out]
                go_wp2_with fail
                refine HF4.out.mono ?_
                rintro _ W4 ⟨rfl, hb4⟩
                obtain ⟨W5, HW5⟩ : ∃ W5, Hid (W5 = W4.alloc (.cells #[.int .i64 3, .int .i64 (m4 : Int), .slice none 0 0, .int .i64 16] 81)) := ⟨_, rfl⟩
                have hb5 : Below W4.heap.size W4 W5 := by rw [HW5.out]; exact (Below.refl _ _).alloc (Nat.le_refl _) _
                have hr5 : W5.heap[W4.heap.size]? = some (arRow 3 m4 (.slice none 0 0) 16) := by rw [HW5.out]; exact heap_alloc_new W4 _
                obtain ⟨ab, HAB⟩ : ∃ ab, Hid (ab = W4.heap.size) := ⟨_, rfl⟩
                have HR0 : Hid (Rdg w W5 w.heap.size ab m4 (.slice none 0 0) [] 16) := by
                  have hb35 : Below W3.heap.size W3 W5 := hb4.trans (hb5.mono hb4.size)
                  have h45 := hb4.size
                  refine ⟨HBW3.out.trans (hb35.mono HBW3.out.size), Nat.le_refl _, by rw [HAB.out]; omega, by rw [HAB.out]; omega, below_keeps hb35 HR3.out hst, by rw [HAB.out]; exact hr5, [], fun _ => False, ownS_nil _ _, rfl, fun i x r hx => by simp at hx, fun k e => e.elim⟩
                have HM0' : Hid (((bs : Int) == 16) = (16 == bs)) := by unfold Hid; rw [Bool.eq_iff_iff]; simp; omega
                obtain ⟨mt0, HMT⟩ : ∃ mt0 : Bool, Hid (mt0 = (16 == bs)) := ⟨_, rfl⟩
                have HRD : Hid (C = rd m4 bs (b.drop 16) [] 16 mt0) := by unfold Hid; rw [HMT.out]; exact hRD
                clear hb4 hb5 hr5 hRD g0 g1 g2 g3 gf HF4 HN4 HTORN HRD0 HBZ
                go_upto_region 9 with fail
                rw [← HW5.out, ← HAB.out]
                go_wp2_with fail
                rw [HM0'.out, ← HMT.out]
                have hn16 : 16 ≤ n := by omega
                clear HW5 HAB HMT HM0' HR3 HBW3 HB3 HC HW1 R1 HM0 HM4 HM12 HCS
                go_loopw [5, 6, 7, 8, 9] (fun mt _ _ _ _ wr => ∃ (m : Bool) (fin nr : Nat) (ar : Option Addr) (cr : Nat) (recs : List (List Nat)), mt = .bool m ∧ 16 ≤ fin ∧ fin ≤ n ∧ 12 * nr + 16 ≤ fin ∧ Hid (Rdg w wr w.heap.size ab m4 (.slice ar nr cr) recs fin) ∧ Hid (nr = recs.length) ∧ Hid (C = rd m4 bs (b.drop fin) recs fin m)) (fun _ _ _ _ _ wr => n - finOf wr ab)
                case atStart => exact ⟨mt0, 16, 0, none, 0, [], rfl, Nat.le_refl _, hn16, by omega, HR0, rfl, HRD⟩
                case round =>
                  obtain ⟨mt, fin, nr, ar, cr, recs, rfl, hf16, hfin, hnr, HR, HNR, HRDk⟩ := hrel
                  clear HR0 HRD
                  obtain ⟨d0, d1, d2, d3, df⟩ := ar_cellsR HR.out.arow
                  have hal : ab < wr.heap.size := (Array.getElem?_eq_some_iff.1 HR.out.arow).1
                  have HME : Hid (finOf wr ab = fin) := by unfold Hid finOf; rw [d3]; simp
                  obtain ⟨Lf, HLf⟩ : ∃ Lf, Hid (Lf = b.drop fin) := ⟨_, rfl⟩
                  rw [← HLf.out] at HRDk
                  have HLL : Hid (Lf.length = n - fin) := by unfold Hid; rw [HLf.out, List.length_drop, ← HN.out]
                  by_cases h12 : fin + 12 ≤ n
                  · have b1 : (fin : Int) + 12 ≤ (n : Int) := by omega
                    have hLb : ∀ x ∈ Lf, x < 256 := fun x hx => HV.out.bytes x (by rw [HLf.out] at hx; exact List.mem_of_mem_drop hx)
                    have HLB := hid hLb
                    obtain ⟨k0, HK0⟩ : ∃ k0, Hid (k0 = num Lf 0) := ⟨_, rfl⟩
                    obtain ⟨k4, HK4⟩ : ∃ k4, Hid (k4 = num Lf 4) := ⟨_, rfl⟩
                    obtain ⟨k8, HK8⟩ : ∃ k8, Hid (k8 = num Lf 8) := ⟨_, rfl⟩
                    have hk0 : k0 < 4294967296 := by rw [HK0.out]; exact num_lt hLb 0
                    have HN0 : Hid (∀ u, Below w.heap.size w u → Calls Tryd.prog 64 #[.slice ao n cap, .int .i64 (fin : Int)] u fun e w' => e = .returned (.int .i64 (k0 : Int)) ∧ Below u.heap.size u w') := fun u hu => by
                      rw [HK0.out, HLf.out, num_drop]; exact numR _ b w u HV.out hu (fin : Int) (fin + 0) (by omega) (by have := HN.out; omega)
                    have HN4 : Hid (∀ u, Below w.heap.size w u → Calls Tryd.prog 64 #[.slice ao n cap, .int .i64 ((fin : Int) + 4)] u fun e w' => e = .returned (.int .i64 (k4 : Int)) ∧ Below u.heap.size u w') := fun u hu => by
                      rw [HK4.out, HLf.out, num_drop]; exact numR _ b w u HV.out hu ((fin : Int) + 4) (fin + 4) (by omega) (by have := HN.out; omega)
                    have HN8 : Hid (∀ u, Below w.heap.size w u → Calls Tryd.prog 64 #[.slice ao n cap, .int .i64 ((fin : Int) + 8)] u fun e w' => e = .returned (.int .i64 (k8 : Int)) ∧ Below u.heap.size u w') := fun u hu => by
                      rw [HK8.out, HLf.out, num_drop]; exact numR _ b w u HV.out hu ((fin : Int) + 8) (fin + 8) (by omega) (by have := HN.out; omega)
                    obtain ⟨ac, HS8, hc8⟩ := HV.out.mid fin (fin + 8) (fin : Int) ((fin : Int) + 8) rfl (by omega) (by omega) (by omega)
                    have hL8 : (b.take (fin + 8)).drop fin = Lf.take 8 := by rw [HLf.out, List.drop_take, show fin + 8 - fin = 8 by omega]
                    rw [hL8, show fin + 8 - fin = 8 by omega] at HS8
                    rw [show fin + 8 - fin = 8 by omega] at hc8
                    have HC8 := hid hc8
                    have HFG := hid (fun u : World => four_s m4 u hm4)
                    have HFK := hid (fun u : World => four_s nr u (by omega))
                    have HF0 := hid (HN0.out wr HR.out.be)
                    clear hc8 hL8 hLb
                    go_wp2_with fail
                    refine HF0.out.mono ?_
                    rintro _ wA ⟨rfl, hbA⟩
                    have HRA := hid (HR.out.below hbA)
                    have HBA : Hid (Below w.heap.size w wA) := HRA.out.be
                    clear hbA HF0 HN0 d0 d1 d2 d3 df hal HR
                    go_upto_region 13 with fail
                    refine wp_region_mono' 14 (fun i => 60 + i) (F13 ab m4 nr fin (.slice ar nr cr) (.slice ao n cap) (.slice ac 8 (cap - fin)) (Lf.take 8)) (by kernel_rfl) (by kernel_rfl) (F13.keeps _ _ _ _ _ _ _ _) ?_ ?_
                    · simp only [List.take_succ_cons, List.take_zero, stepsOk]
                      refine ⟨?_, ?_, ?_, ?_, ?_, ?_, ?_, ?_, ?_, ?_, ?_, ?_, ?_, ?_, trivial⟩
                      · intro a u vs hb hold hdep
                        exact wp_val (ex_field _ ⟨ab, 0, none⟩ (.tmp 4) 1 _ rfl (hold 4 (fun j _ => low (by decide))) (field_ar ab u).1) ⟨_, rfl, rfl, hb, Below.refl _ _⟩
                      · intro a u vs hb hold hdep
                        have h0 := hdep ⟨0, .data⟩ (by simp) rfl (by decide)
                        have hc := (ar_cellsR (HRA.out.below hb).arow).2.1
                        exact wp_val (ex_load _ ⟨ab, 1, none⟩ (.tmp 60) _ rfl (h0.1.trans h0.2) (load_in hc)) ⟨_, rfl, rfl, hb, Below.refl _ _⟩
                      · intro a u vs hb hold hdep
                        have h0 := hdep ⟨1, .data⟩ (by simp) rfl (by decide)
                        refine wp_call 66 _ _ rfl (enters_of Tryd.func66 (by kernel_rfl) rfl) #[.int .i64 (m4 : Int)] (by simp only [List.map_toArray, List.map_cons, List.map_nil]; rw [show a.eval (.tmp 61) = _ from h0.1.trans h0.2]) ?_
                        refine (HFG.out u).mono ?_
                        rintro _ u' ⟨xa, xm, xc, rfl, hs, hb'⟩
                        exact ⟨_, rfl, _, rfl, ⟨xa, xm, xc, rfl, hs⟩, hb.trans (hb'.mono hb.size), hb'⟩
                      · intro a u vs hb hold hdep
                        exact wp_val (ex_field _ ⟨ab, 0, none⟩ (.tmp 4) 2 _ rfl (hold 4 (fun j _ => low (by decide))) (field_ar ab u).2) ⟨_, rfl, rfl, hb, Below.refl _ _⟩
                      · intro a u vs hb hold hdep
                        have h0 := hdep ⟨3, .data⟩ (by simp) rfl (by decide)
                        have hc := (ar_cellsR (HRA.out.below hb).arow).2.2.1
                        exact wp_val (ex_load _ ⟨ab, 2, none⟩ (.tmp 63) _ rfl (h0.1.trans h0.2) (load_sB hc)) ⟨_, rfl, rfl, hb, Below.refl _ _⟩
                      · intro a u vs hb hold hdep
                        have h0 := hdep ⟨4, .data⟩ (by simp) rfl (by decide)
                        exact wp_val (ex_lenS 64 ar nr cr rfl (h0.1.trans h0.2)) ⟨_, rfl, rfl, hb, Below.refl _ _⟩
                      · intro a u vs hb hold hdep
                        have h0 := hdep ⟨5, .data⟩ (by simp) rfl (by decide)
                        refine wp_call 66 _ _ rfl (enters_of Tryd.func66 (by kernel_rfl) rfl) #[.int .i64 (nr : Int)] (by simp only [List.map_toArray, List.map_cons, List.map_nil]; rw [show a.eval (.tmp 65) = _ from h0.1.trans h0.2]) ?_
                        refine (HFK.out u).mono ?_
                        rintro _ u' ⟨xa, xm, xc, rfl, hs, hb'⟩
                        exact ⟨_, rfl, _, rfl, ⟨xa, xm, xc, rfl, hs⟩, hb.trans (hb'.mono hb.size), hb'⟩
                      · intro a u vs hb hold hdep
                        obtain ⟨h1, xa, xm, xc, e1, s1⟩ := hdep ⟨2, .data⟩ (by simp) rfl (by decide)
                        obtain ⟨h2, ya, ym, yc, e2, s2⟩ := hdep ⟨6, .data⟩ (by simp) rfl (by decide)
                        refine wp_call 58 _ _ rfl (enters_of Tryd.func58 (by kernel_rfl) rfl) #[.slice xa xm xc, .slice ya ym yc] (by simp only [List.map_toArray, List.map_cons, List.map_nil]; rw [show a.eval (.tmp 62) = _ from h1.trans e1, show a.eval (.tmp 66) = _ from h2.trans e2]) ?_
                        refine (join_s _ _ _ _ u s1 s2 (by simp only [w4_len]; omega)).mono ?_
                        rintro _ u' ⟨za, zm, zc, rfl, hs, -, hb'⟩
                        exact ⟨_, rfl, _, rfl, ⟨za, zm, zc, rfl, hs⟩, hb.trans (hb'.mono hb.size), hb'⟩
                      · intro a u vs hb hold hdep
                        exact wp_val (ex_move (.tmp 0) _ rfl (hold 0 (fun j _ => low (by decide)))) ⟨_, rfl, rfl, hb, Below.refl _ _⟩
                      · intro a u vs hb hold hdep
                        exact wp_val (ex_move (.tmp 6) _ rfl (hold 6 (fun j _ => low (by decide)))) ⟨_, rfl, rfl, hb, Below.refl _ _⟩
                      · intro a u vs hb hold hdep
                        exact wp_val (ex_move (.tmp 6) _ rfl (hold 6 (fun j _ => low (by decide)))) ⟨_, rfl, rfl, hb, Below.refl _ _⟩
                      · intro a u vs hb hold hdep
                        have h0 := hdep ⟨10, .data⟩ (by simp) rfl (by decide)
                        exact wp_val (ex_addI (.tmp 70) (.const (.int .i64 8)) (fin : Int) 8 rfl (h0.1.trans h0.2) rfl (by omega) (by omega)) ⟨_, rfl, rfl, hb, Below.refl _ _⟩
                      · intro a u vs hb hold hdep
                        have h8 := hdep ⟨8, .data⟩ (by simp) rfl (by decide)
                        have h9 := hdep ⟨9, .data⟩ (by simp) rfl (by decide)
                        have h11 := hdep ⟨11, .data⟩ (by simp) rfl (by decide)
                        exact wp_val (ex_sliceM _ (.tmp 68) (.tmp 69) (.tmp 71) _ _ _ _ rfl (h8.1.trans h8.2) (h9.1.trans h9.2) (h11.1.trans h11.2) (HC8.out u)) ⟨_, rfl, rfl, hb, Below.refl _ _⟩
                      · intro a u vs hb hold hdep
                        obtain ⟨h1, xa, xm, xc, e1, s1⟩ := hdep ⟨7, .data⟩ (by simp) rfl (by decide)
                        have h2 := hdep ⟨12, .data⟩ (by simp) rfl (by decide)
                        refine wp_call 58 _ _ rfl (enters_of Tryd.func58 (by kernel_rfl) rfl) #[.slice xa xm xc, .slice ac 8 (cap - fin)] (by simp only [List.map_toArray, List.map_cons, List.map_nil]; rw [show a.eval (.tmp 67) = _ from h1.trans e1, show a.eval (.tmp 72) = _ from h2.1.trans h2.2]) ?_
                        refine (join_s _ _ _ _ u s1 ((HS8.out.below HBA.out).below hb) (by rw [List.length_append]; simp only [w4_len]; rw [List.length_take]; omega)).mono ?_
                        rintro _ u' ⟨za, zm, zc, rfl, hs, -, hb'⟩
                        exact ⟨_, rfl, _, rfl, ⟨za, zm, zc, rfl, hs⟩, hb.trans (hb'.mono hb.size), hb'⟩
                    · intro vs wB hbB hF
                      obtain ⟨xa, xm, xc, e13, s13⟩ := hF 13 (by decide)
                      generalize vs 0 = y0
                      generalize vs 1 = y1
                      generalize vs 2 = y2
                      generalize vs 3 = y3
                      generalize vs 4 = y4
                      generalize vs 5 = y5
                      generalize vs 6 = y6
                      generalize vs 7 = y7
                      generalize vs 8 = y8
                      generalize vs 9 = y9
                      generalize vs 10 = y10
                      generalize vs 11 = y11
                      generalize vs 12 = y12
                      simp only [List.drop_succ_cons, List.drop_zero, puts, List.range, List.range.loop, List.foldr, if_true, Act.put, e13, Nat.reduceAdd, List.setIfInBounds_toArray, List.set_cons_succ, List.set_cons_zero]
                      have HSM := hid s13
                      have HRB := hid (HRA.out.below hbB)
                      clear e13 hF s13 hbB HRA HBA HC8 HS8 HFG HFK
                      have HF8 := hid (HN8.out wB HRB.out.be)
                      obtain ⟨cm, HCM⟩ : ∃ cm, Hid (cm = crc (w4 m4 ++ w4 nr ++ Lf.take 8)) := ⟨_, rfl⟩
                      have HFT : Hid (fits m4 recs.length Lf = (k8 == cm && decide (k0 ≤ 65536))) := by
                        unfold Hid fits
                        rw [← HNR.out, sel_bytes HLB.out (by have := HLL.out; omega), ← HCM.out, ← HK8.out, ← HK0.out]
                      go_wp2_with fail
                      refine HF8.out.mono ?_
                      rintro _ wC ⟨rfl, hbC⟩
                      have HRC := hid (HRB.out.below hbC)
                      have hcc := crcR_any _ _ wC (HSM.out.below hbC)
                      rw [← HCM.out] at hcc
                      have HCC := hid hcc
                      have hN12 : ¬ Lf.length < 12 := by have := HLL.out; omega
                      have HN12 := hid hN12
                      clear hbC HF8 HN8 HRB HSM hcc hN12
                      by_cases hk8 : k8 = cm
                      · by_cases hkb : k0 ≤ 65536
                        · have hft : fits m4 recs.length Lf = true := by rw [HFT.out, hk8]; simp [hkb]
                          have HFF := hid hft
                          have q5 : ((k8 : Int) != (cm : Int)) = false := by simp; omega
                          have q6 : ¬ (65536 : Int) < (k0 : Int) := by omega
                          clear hft HFT
                          by_cases htr : n < fin + 12 + k0
                          · as_aux_lemma =>
                              have HEE : Hid (C = if mt then ⟨3, m4, recs, fin⟩ else ⟨1, 0, [], 0⟩) := by unfold Hid; rw [HRDk.out]; exact rd_torn HN12.out HFF.out (by have := HLL.out; rw [← HK0.out]; omega)
                              have q7 : (n : Int) < (fin : Int) + 12 + (k0 : Int) := by omega
                              clear HRDk HN12
                              go_wp2_with fail
                              refine HCC.out.mono ?_
                              rintro _ wx ⟨rfl, rfl⟩
                              obtain ⟨g0, g1, g2, g3, gf⟩ := ar_cellsR HRC.out.rrow
                              have hst : w.heap.size < wx.heap.size := (Array.getElem?_eq_some_iff.1 HRC.out.rrow).1
                              have hsa : ab < wx.heap.size := (Array.getElem?_eq_some_iff.1 HRC.out.arow).1
                              obtain ⟨a0, a1, a2, a3, af⟩ := ar_cellsR HRC.out.arow
                              cases mt with
                              | false =>
                                have HE : Hid (C = ⟨1, 0, [], 0⟩) := HEE.out
                                go_wp2_with fail
                                obtain ⟨hU, hkU⟩ := arR_put HRC.out.rrow (.int .i64 1) (.int .i64 0) (.slice none 0 0) (.int .i64 0)
                                have hD := hid (HRC.out.done hkU)
                                generalize ((((wx.setCell ⟨w.heap.size, 0, none⟩ (.int .i64 1)).setCell ⟨w.heap.size, 1, none⟩ (.int .i64 0)).setCell ⟨w.heap.size, 2, none⟩ (.slice none 0 0)).setCell ⟨w.heap.size, 3, none⟩ (.int .i64 0)) = U at *
                                have z0 : U.cell? ⟨w.heap.size, 0, none⟩ = some (.int .i64 1) := by rw [cell_of_row _ _ _ _ _ _ hU]; rfl
                                have z1 : U.cell? ⟨w.heap.size, 1, none⟩ = some (.int .i64 0) := by rw [cell_of_row _ _ _ _ _ _ hU]; rfl
                                have z2 : U.cell? ⟨w.heap.size, 2, none⟩ = some (.slice none 0 0) := by rw [cell_of_row _ _ _ _ _ _ hU]; rfl
                                have z3 : U.cell? ⟨w.heap.size, 3, none⟩ = some (.int .i64 0) := by rw [cell_of_row _ _ _ _ _ _ hU]; rfl
                                refine bodyPost_ret (v := .agg #[.int .i64 1, .int .i64 0, (.slice none 0 0), .int .i64 0]) (by simp [results, Tryd.results41, go_sem, z0, z1, z2, z3]) rfl ⟨_, rfl, (.slice none 0 0), ?_, ?_, ?_⟩
                                · rw [HE.out]; rfl
                                · rw [HE.out]; exact seesBB_nil _
                                · exact hD.out.1
                              | true =>
                                have HE : Hid (C = ⟨3, m4, recs, fin⟩) := HEE.out
                                go_wp2_with fail
                                obtain ⟨hU, hkU⟩ := arR_put HRC.out.rrow (.int .i64 3) (.int .i64 (m4 : Int)) (.slice ar nr cr) (.int .i64 (fin : Int))
                                have hD := hid (HRC.out.done hkU)
                                generalize ((((wx.setCell ⟨w.heap.size, 0, none⟩ (.int .i64 3)).setCell ⟨w.heap.size, 1, none⟩ (.int .i64 (m4 : Int))).setCell ⟨w.heap.size, 2, none⟩ (.slice ar nr cr)).setCell ⟨w.heap.size, 3, none⟩ (.int .i64 (fin : Int))) = U at *
                                have z0 : U.cell? ⟨w.heap.size, 0, none⟩ = some (.int .i64 3) := by rw [cell_of_row _ _ _ _ _ _ hU]; rfl
                                have z1 : U.cell? ⟨w.heap.size, 1, none⟩ = some (.int .i64 (m4 : Int)) := by rw [cell_of_row _ _ _ _ _ _ hU]; rfl
                                have z2 : U.cell? ⟨w.heap.size, 2, none⟩ = some (.slice ar nr cr) := by rw [cell_of_row _ _ _ _ _ _ hU]; rfl
                                have z3 : U.cell? ⟨w.heap.size, 3, none⟩ = some (.int .i64 (fin : Int)) := by rw [cell_of_row _ _ _ _ _ _ hU]; rfl
                                refine bodyPost_ret (v := .agg #[.int .i64 3, .int .i64 (m4 : Int), (.slice ar nr cr), .int .i64 (fin : Int)]) (by simp [results, Tryd.results41, go_sem, z0, z1, z2, z3]) rfl ⟨_, rfl, (.slice ar nr cr), ?_, ?_, ?_⟩
                                · rw [HE.out]; rfl
                                · rw [HE.out]; exact hD.out.2
                                · exact hD.out.1
                          · obtain ⟨rec, HREC⟩ : ∃ rec, Hid (rec = (Lf.drop 12).take k0) := ⟨_, rfl⟩
                            have q7 : ¬ (n : Int) < (fin : Int) + 12 + (k0 : Int) := by omega
                            obtain ⟨ad, HSD, hcd⟩ := (HV.out.below HRC.out.be).mid (fin + 12) (fin + 12 + k0) ((fin : Int) + 12) ((fin : Int) + 12 + (k0 : Int)) (by omega) (by omega) (by omega) (by omega)
                            have hrc : (b.take (fin + 12 + k0)).drop (fin + 12) = rec := by rw [HREC.out, HLf.out, List.drop_take, List.drop_drop, show fin + 12 + k0 - (fin + 12) = k0 by omega]
                            rw [hrc, show fin + 12 + k0 - (fin + 12) = k0 by omega] at HSD
                            rw [show fin + 12 + k0 - (fin + 12) = k0 by omega] at hcd
                            have hrl : rec.length = k0 := by have h1 := HLL.out; rw [HREC.out, List.length_take, List.length_drop]; omega
                            have HRL := hid hrl
                            have HJN := hid (join_s (.slice none 0 0) _ [] rec wC (sees_nil _) HSD.out (by simp; omega))
                            rw [List.nil_append] at HJN
                            clear hrc hrl
                            go_wp2_with fail
                            refine HCC.out.mono ?_
                            rintro _ wx ⟨rfl, rfl⟩
                            go_wp2_with fail
                            refine HJN.out.mono ?_
                            rintro _ wD ⟨ja, jm, jc, rfl, hsD, hoD, hbD⟩
                            have HRD' := hid (HRC.out.below hbD)
                            have HBD := hid hbD
                            have HOD := hid hoD
                            have HSR := hid hsD
                            have HF4 := hid (HN4.out wD HRD'.out.be)
                            clear hsD hoD hbD hcd HJN HCC
                            go_wp2_with fail
                            refine HF4.out.mono ?_
                            rintro _ wE ⟨rfl, hbE⟩
                            have HRE := hid (HRD'.out.below hbE)
                            have HBE : Hid (Below wx.heap.size wx wE) := HBD.out.trans (hbE.mono HBD.out.size)
                            obtain ⟨cr4, HC4⟩ : ∃ cr4, Hid (cr4 = crc rec) := ⟨_, rfl⟩
                            have hcr := crcR_any _ _ wE (HSR.out.below hbE)
                            rw [← HC4.out] at hcr
                            have HCR := hid hcr
                            have HOE := hid (HOD.out.below hbE)
                            clear hbE hcr HF4 HN4 HRD' HSD
                            by_cases hsum : k4 = cr4
                            · have q8 : ((k4 : Int) != (cr4 : Int)) = false := by simp; omega
                              have hON := rd_on (g := m4) (base := bs) (fin := fin) (met := mt) HN12.out HFF.out (by have := HLL.out; rw [← HK0.out]; omega) (by rw [← HK0.out, ← HREC.out, ← HC4.out, ← HK4.out, hsum])
                              rw [← HK0.out, ← HREC.out, HLf.out, List.drop_drop, ← HLf.out] at hON
                              have HRD2 : Hid (C = rd m4 bs (b.drop (fin + (12 + k0))) (recs ++ [rec]) (fin + (12 + k0)) (mt || fin + (12 + k0) == bs)) := by unfold Hid; rw [HRDk.out]; exact hON
                              obtain ⟨Vs, CC, hV, hVl, hVf, hCa⟩ := HRC.out.own
                              have hbA : Below wE.heap.size wE (wE.alloc (.cells #[.slice ja jm jc] 22)) := (Below.refl _ _).alloc (Nat.le_refl _) _
                              have hbW : Below wx.heap.size wx (wE.alloc (.cells #[.slice ja jm jc] 22)) := HBE.out.trans (hbA.mono HBE.out.size)
                              have hnV : nr = Vs.length := by rw [hVl]; exact HNR.out
                              obtain ⟨i0, hi0, hz0, hz1, hz2⟩ := info_parts infoS
                              have hown : (wE.alloc (.cells #[.slice ja jm jc] 22)).ownsRow w.heap.size 22 1 (.slice ar nr cr) nr Vs := by
                                have := hV.below hbW
                                unfold OwnS at this
                                rw [← hnV] at this
                                exact this
                              obtain ⟨g6, cap6, w6, hap, ho6, hg6, hat6, hlt6⟩ := run_append_lies (P := Tryd.prog) (w := wE.alloc (.cells #[.slice ja jm jc] 22)) 38 38 w.heap.size 22 i0 _ 1 24 uBB hi0 hz0 hz1 hz2 rfl (by decide) _ nr Vs hown ⟨wE.heap.size, 0, none⟩ 1 1 [.slice ja jm jc] rfl (World.news_of_block (heap_alloc_new _ _)) (by simp [Value.oneCell']) (by decide) (by unfold maxLen; omega) (by omega) ((HRC.out.below hbW).be.size) _ rfl
                              have hADD := HRC.out.add (fin' := fin + (12 + k0)) (r := rec) hV hVl hVf hCa hbW (((HOE.out.sees (by intro x hx; exact HLB.out x (by rw [HREC.out] at hx; exact List.mem_of_mem_drop (List.mem_of_mem_take hx)))).below hbA)) (fun a' n' c' e => by
                                have h1 := World.ownsRow.lt HOE.out a'.block (by simp at e; obtain ⟨rfl, -, -⟩ := e; rcases HOE.out.2 with ⟨e2, -⟩ | ⟨g, cap, cur, e2, -⟩ <;> simp at e2 <;> rw [e2.1] <;> rfl)
                                have h2 := hbA.size
                                omega) (by unfold OwnS; rw [List.length_append, ← hnV]; exact ho6) hg6 (hat6.imp id (fun e => Nat.le_of_eq e.symm))
                              rw [show ((fin + (12 + k0) : Nat) : Int) = (fin : Int) + 12 + (k0 : Int) by omega] at hADD
                              have hE := HRE.out.arow
                              have h6 : w6.heap[ab]? = some (arRow 3 m4 (.slice ar nr cr) fin) := by
                                have hW := (HRE.out.below hbA)
                                have hrw := hW.arow
                                unfold arRow at hrw
                                exact (hg6.block ab (Array.getElem?_eq_some_iff.1 hW.arow).1 (fun e => (hV.below hbW).ne_of hrw (by decide) e.symm)).trans hW.arow
                              have h7 : (w6.setCell ⟨ab, 2, none⟩ (.slice (some ⟨g6, 0, none⟩) (nr + 1) cap6)).heap[ab]? = some (arRow 3 m4 (.slice (some ⟨g6, 0, none⟩) (nr + 1) cap6) fin) := by
                                unfold arRow at h6 ⊢
                                exact set_cells h6
                              obtain ⟨-, -, j2, j3, jf⟩ := ar_cellsR hE
                              obtain ⟨-, -, l2, l3, lf⟩ := ar_cellsR h6
                              obtain ⟨-, -, p2, p3, pf⟩ := ar_cellsR h7
                              have hl6 : ab < w6.heap.size := (Array.getElem?_eq_some_iff.1 h6).1
                              have hlE : ab < wE.heap.size := (Array.getElem?_eq_some_iff.1 hE).1
                              obtain ⟨W9, hW9⟩ : ∃ W9, W9 = (w6.setCell ⟨ab, 2, none⟩ (.slice (some ⟨g6, 0, none⟩) (nr + 1) cap6)).setCell ⟨ab, 3, none⟩ (.int .i64 ((fin : Int) + 12 + (k0 : Int))) := ⟨_, rfl⟩
                              rw [← hW9] at hADD
                              have HW9 := hid hW9
                              have HADD := hid hADD
                              have HAP := hid hap
                              obtain ⟨-, -, s2, s3, sf⟩ := ar_cellsR hADD.arow
                              rw [show ((fin + (12 + k0) : Nat) : Int) = (fin : Int) + 12 + (k0 : Int) by omega] at s3
                              have hl9 : ab < W9.heap.size := (Array.getElem?_eq_some_iff.1 hADD.arow).1
                              have HNR2 : Hid (nr + 1 = (recs ++ [rec]).length) := by unfold Hid; rw [List.length_append, ← HNR.out]; rfl
                              have HME2 : Hid (finOf W9 ab = fin + (12 + k0)) := by unfold Hid finOf; rw [s3]; simp; omega
                              clear hADD hW9 hap hown hV hVl hVf hCa hbA hbW hnV ho6 hg6 hat6 hlt6 hE h6 h7 hi0 hON HRDk HRC HRE HOE HOD HSR HBE HBD HN12 HFF
                              by_cases hmet : fin + (12 + k0) = bs
                              · have HRD3 : Hid (C = rd m4 bs (b.drop (fin + (12 + k0))) (recs ++ [rec]) (fin + (12 + k0)) true) := by
                                  have := HRD2.out
                                  rw [show (mt || fin + (12 + k0) == bs) = true by simp [hmet]] at this
                                  exact this
                                have q9 : (((fin : Int) + 12 + (k0 : Int)) == (bs : Int)) = true := by simp; omega
                                have q9' : (fin : Int) + 12 + (k0 : Int) = (bs : Int) := by omega
                                have Q9 := hid q9'
                                clear q9'
                                go_wp2_with fail
                                refine HCR.out.mono ?_
                                rintro _ wy ⟨rfl, rfl⟩
                                go_upto_region 22 with (at_builtin; refine wpList_append_run _ rfl _ _ 38 38 rfl _ _ rfl rfl HAP.out ?_)
                                rw [← HW9.out]
                                go_wp2_with fail
                                go_roundw
                                case rel => exact ⟨true, fin + (12 + k0), nr + 1, some ⟨g6, 0, none⟩, cap6, recs ++ [rec], rfl, by omega, by omega, by omega, HADD, HNR2, HRD3⟩
                                case measure => rw [HME.out, HME2.out]; omega
                              · have HRD3 : Hid (C = rd m4 bs (b.drop (fin + (12 + k0))) (recs ++ [rec]) (fin + (12 + k0)) mt) := by
                                  have := HRD2.out
                                  rw [show (mt || fin + (12 + k0) == bs) = mt by simp [hmet]] at this
                                  exact this
                                have q9 : (((fin : Int) + 12 + (k0 : Int)) == (bs : Int)) = false := by simp; omega
                                go_wp2_with fail
                                refine HCR.out.mono ?_
                                rintro _ wy ⟨rfl, rfl⟩
                                go_upto_region 22 with (at_builtin; refine wpList_append_run _ rfl _ _ 38 38 rfl _ _ rfl rfl HAP.out ?_)
                                rw [← HW9.out]
                                go_wp2_with fail
                                go_roundw
                                case rel => exact ⟨mt, fin + (12 + k0), nr + 1, some ⟨g6, 0, none⟩, cap6, recs ++ [rec], rfl, by omega, by omega, by omega, HADD, HNR2, HRD3⟩
                                case measure => rw [HME.out, HME2.out]; omega
                            · as_aux_lemma =>
                                have q8 : ((k4 : Int) != (cr4 : Int)) = true := by simp; omega
                                have HE : Hid (C = ⟨1, 0, [], 0⟩) := by unfold Hid; rw [HRDk.out]; exact rd_bad HN12.out HFF.out (by have := HLL.out; rw [← HK0.out]; omega) (by rw [← HK0.out, ← HREC.out, ← HC4.out, ← HK4.out]; exact fun e => hsum e.symm)
                                clear HRDk
                                go_wp2_with fail
                                refine HCR.out.mono ?_
                                rintro _ wy ⟨rfl, rfl⟩
                                obtain ⟨g0, g1, g2, g3, gf⟩ := ar_cellsR HRE.out.rrow
                                have hst : w.heap.size < wy.heap.size := (Array.getElem?_eq_some_iff.1 HRE.out.rrow).1
                                go_wp2_with fail
                                obtain ⟨hU, hkU⟩ := arR_put HRE.out.rrow (.int .i64 1) (.int .i64 0) (.slice none 0 0) (.int .i64 0)
                                have hD := hid (HRE.out.done hkU)
                                generalize ((((wy.setCell ⟨w.heap.size, 0, none⟩ (.int .i64 1)).setCell ⟨w.heap.size, 1, none⟩ (.int .i64 0)).setCell ⟨w.heap.size, 2, none⟩ (.slice none 0 0)).setCell ⟨w.heap.size, 3, none⟩ (.int .i64 0)) = U at *
                                have z0 : U.cell? ⟨w.heap.size, 0, none⟩ = some (.int .i64 1) := by rw [cell_of_row _ _ _ _ _ _ hU]; rfl
                                have z1 : U.cell? ⟨w.heap.size, 1, none⟩ = some (.int .i64 0) := by rw [cell_of_row _ _ _ _ _ _ hU]; rfl
                                have z2 : U.cell? ⟨w.heap.size, 2, none⟩ = some (.slice none 0 0) := by rw [cell_of_row _ _ _ _ _ _ hU]; rfl
                                have z3 : U.cell? ⟨w.heap.size, 3, none⟩ = some (.int .i64 0) := by rw [cell_of_row _ _ _ _ _ _ hU]; rfl
                                refine bodyPost_ret (v := .agg #[.int .i64 1, .int .i64 0, (.slice none 0 0), .int .i64 0]) (by simp [results, Tryd.results41, go_sem, z0, z1, z2, z3]) rfl ⟨_, rfl, (.slice none 0 0), ?_, ?_, ?_⟩
                                · rw [HE.out]; rfl
                                · rw [HE.out]; exact seesBB_nil _
                                · exact hD.out.1
                        · as_aux_lemma =>
                            have HE : Hid (C = ⟨1, 0, [], 0⟩) := by unfold Hid; rw [HRDk.out]; exact rd_unfit HN12.out (by rw [HFT.out]; simp [hkb])
                            have q5 : ((k8 : Int) != (cm : Int)) = false := by simp; omega
                            have q6 : (65536 : Int) < (k0 : Int) := by omega
                            clear HRDk HFT
                            go_wp2_with fail
                            refine HCC.out.mono ?_
                            rintro _ wx ⟨rfl, rfl⟩
                            obtain ⟨g0, g1, g2, g3, gf⟩ := ar_cellsR HRC.out.rrow
                            have hst : w.heap.size < wx.heap.size := (Array.getElem?_eq_some_iff.1 HRC.out.rrow).1
                            go_wp2_with fail
                            obtain ⟨hU, hkU⟩ := arR_put HRC.out.rrow (.int .i64 1) (.int .i64 0) (.slice none 0 0) (.int .i64 0)
                            have hD := hid (HRC.out.done hkU)
                            generalize ((((wx.setCell ⟨w.heap.size, 0, none⟩ (.int .i64 1)).setCell ⟨w.heap.size, 1, none⟩ (.int .i64 0)).setCell ⟨w.heap.size, 2, none⟩ (.slice none 0 0)).setCell ⟨w.heap.size, 3, none⟩ (.int .i64 0)) = U at *
                            have z0 : U.cell? ⟨w.heap.size, 0, none⟩ = some (.int .i64 1) := by rw [cell_of_row _ _ _ _ _ _ hU]; rfl
                            have z1 : U.cell? ⟨w.heap.size, 1, none⟩ = some (.int .i64 0) := by rw [cell_of_row _ _ _ _ _ _ hU]; rfl
                            have z2 : U.cell? ⟨w.heap.size, 2, none⟩ = some (.slice none 0 0) := by rw [cell_of_row _ _ _ _ _ _ hU]; rfl
                            have z3 : U.cell? ⟨w.heap.size, 3, none⟩ = some (.int .i64 0) := by rw [cell_of_row _ _ _ _ _ _ hU]; rfl
                            refine bodyPost_ret (v := .agg #[.int .i64 1, .int .i64 0, (.slice none 0 0), .int .i64 0]) (by simp [results, Tryd.results41, go_sem, z0, z1, z2, z3]) rfl ⟨_, rfl, (.slice none 0 0), ?_, ?_, ?_⟩
                            · rw [HE.out]; rfl
                            · rw [HE.out]; exact seesBB_nil _
                            · exact hD.out.1
                      · as_aux_lemma =>
                          have HE : Hid (C = ⟨1, 0, [], 0⟩) := by unfold Hid; rw [HRDk.out]; exact rd_unfit HN12.out (by rw [HFT.out]; simp [hk8])
                          have q5 : ((k8 : Int) != (cm : Int)) = true := by simp; omega
                          clear HRDk HFT
                          go_wp2_with fail
                          refine HCC.out.mono ?_
                          rintro _ wx ⟨rfl, rfl⟩
                          obtain ⟨g0, g1, g2, g3, gf⟩ := ar_cellsR HRC.out.rrow
                          have hst : w.heap.size < wx.heap.size := (Array.getElem?_eq_some_iff.1 HRC.out.rrow).1
                          go_wp2_with fail
                          obtain ⟨hU, hkU⟩ := arR_put HRC.out.rrow (.int .i64 1) (.int .i64 0) (.slice none 0 0) (.int .i64 0)
                          have hD := hid (HRC.out.done hkU)
                          generalize ((((wx.setCell ⟨w.heap.size, 0, none⟩ (.int .i64 1)).setCell ⟨w.heap.size, 1, none⟩ (.int .i64 0)).setCell ⟨w.heap.size, 2, none⟩ (.slice none 0 0)).setCell ⟨w.heap.size, 3, none⟩ (.int .i64 0)) = U at *
                          have z0 : U.cell? ⟨w.heap.size, 0, none⟩ = some (.int .i64 1) := by rw [cell_of_row _ _ _ _ _ _ hU]; rfl
                          have z1 : U.cell? ⟨w.heap.size, 1, none⟩ = some (.int .i64 0) := by rw [cell_of_row _ _ _ _ _ _ hU]; rfl
                          have z2 : U.cell? ⟨w.heap.size, 2, none⟩ = some (.slice none 0 0) := by rw [cell_of_row _ _ _ _ _ _ hU]; rfl
                          have z3 : U.cell? ⟨w.heap.size, 3, none⟩ = some (.int .i64 0) := by rw [cell_of_row _ _ _ _ _ _ hU]; rfl
                          refine bodyPost_ret (v := .agg #[.int .i64 1, .int .i64 0, (.slice none 0 0), .int .i64 0]) (by simp [results, Tryd.results41, go_sem, z0, z1, z2, z3]) rfl ⟨_, rfl, (.slice none 0 0), ?_, ?_, ?_⟩
                          · rw [HE.out]; rfl
                          · rw [HE.out]; exact seesBB_nil _
                          · exact hD.out.1
                  · as_aux_lemma =>
                      have HEE : Hid (C = if mt then ⟨3, m4, recs, fin⟩ else ⟨1, 0, [], 0⟩) := by unfold Hid; rw [HRDk.out]; exact rd_short (by have := HLL.out; omega)
                      have b1 : ¬ (fin : Int) + 12 ≤ (n : Int) := by omega
                      clear HRDk
                      obtain ⟨g0, g1, g2, g3, gf⟩ := ar_cellsR HR.out.rrow
                      have hst : w.heap.size < wr.heap.size := (Array.getElem?_eq_some_iff.1 HR.out.rrow).1
                      have hsa : ab < wr.heap.size := (Array.getElem?_eq_some_iff.1 HR.out.arow).1
                      obtain ⟨a0, a1, a2, a3, af⟩ := ar_cellsR HR.out.arow
                      cases mt with
                      | false =>
                        have HE : Hid (C = ⟨1, 0, [], 0⟩) := HEE.out
                        go_wp2_with fail
                        obtain ⟨hU, hkU⟩ := arR_put HR.out.rrow (.int .i64 1) (.int .i64 0) (.slice none 0 0) (.int .i64 0)
                        have hD := hid (HR.out.done hkU)
                        generalize ((((wr.setCell ⟨w.heap.size, 0, none⟩ (.int .i64 1)).setCell ⟨w.heap.size, 1, none⟩ (.int .i64 0)).setCell ⟨w.heap.size, 2, none⟩ (.slice none 0 0)).setCell ⟨w.heap.size, 3, none⟩ (.int .i64 0)) = U at *
                        have z0 : U.cell? ⟨w.heap.size, 0, none⟩ = some (.int .i64 1) := by rw [cell_of_row _ _ _ _ _ _ hU]; rfl
                        have z1 : U.cell? ⟨w.heap.size, 1, none⟩ = some (.int .i64 0) := by rw [cell_of_row _ _ _ _ _ _ hU]; rfl
                        have z2 : U.cell? ⟨w.heap.size, 2, none⟩ = some (.slice none 0 0) := by rw [cell_of_row _ _ _ _ _ _ hU]; rfl
                        have z3 : U.cell? ⟨w.heap.size, 3, none⟩ = some (.int .i64 0) := by rw [cell_of_row _ _ _ _ _ _ hU]; rfl
                        refine bodyPost_ret (v := .agg #[.int .i64 1, .int .i64 0, (.slice none 0 0), .int .i64 0]) (by simp [results, Tryd.results41, go_sem, z0, z1, z2, z3]) rfl ⟨_, rfl, (.slice none 0 0), ?_, ?_, ?_⟩
                        · rw [HE.out]; rfl
                        · rw [HE.out]; exact seesBB_nil _
                        · exact hD.out.1
                      | true =>
                        have HE : Hid (C = ⟨3, m4, recs, fin⟩) := HEE.out
                        go_wp2_with fail
                        obtain ⟨hU, hkU⟩ := arR_put HR.out.rrow (.int .i64 3) (.int .i64 (m4 : Int)) (.slice ar nr cr) (.int .i64 (fin : Int))
                        have hD := hid (HR.out.done hkU)
                        generalize ((((wr.setCell ⟨w.heap.size, 0, none⟩ (.int .i64 3)).setCell ⟨w.heap.size, 1, none⟩ (.int .i64 (m4 : Int))).setCell ⟨w.heap.size, 2, none⟩ (.slice ar nr cr)).setCell ⟨w.heap.size, 3, none⟩ (.int .i64 (fin : Int))) = U at *
                        have z0 : U.cell? ⟨w.heap.size, 0, none⟩ = some (.int .i64 3) := by rw [cell_of_row _ _ _ _ _ _ hU]; rfl
                        have z1 : U.cell? ⟨w.heap.size, 1, none⟩ = some (.int .i64 (m4 : Int)) := by rw [cell_of_row _ _ _ _ _ _ hU]; rfl
                        have z2 : U.cell? ⟨w.heap.size, 2, none⟩ = some (.slice ar nr cr) := by rw [cell_of_row _ _ _ _ _ _ hU]; rfl
                        have z3 : U.cell? ⟨w.heap.size, 3, none⟩ = some (.int .i64 (fin : Int)) := by rw [cell_of_row _ _ _ _ _ _ hU]; rfl
                        refine bodyPost_ret (v := .agg #[.int .i64 3, .int .i64 (m4 : Int), (.slice ar nr cr), .int .i64 (fin : Int)]) (by simp [results, Tryd.results41, go_sem, z0, z1, z2, z3]) rfl ⟨_, rfl, (.slice ar nr cr), ?_, ?_, ?_⟩
                        · rw [HE.out]; rfl
                        · rw [HE.out]; exact hD.out.2
                        · exact hD.out.1
          · as_aux_lemma =>
              have HE : Hid (C = ⟨1, 0, [], 0⟩) := by
                unfold Hid
                rw [HC.out, rdA, if_neg (by have := HN.out; omega), if_pos (.inr (by rw [HHD.out]; simp [hk8]))]
              have q1 : ¬ (1048576 : Int) < (n : Int) := by omega
              have q2 : ((m0 : Int) != 2003134068) = false := by simp; omega
              have q3 : ((m12 : Int) != (cs : Int)) = false := by simp; omega
              have q4 : (1048560 : Int) < (m8 : Int) := by omega
              clear HHD
              go_enter Tryd.func41, Tryd.ntmps41
              go_upto_region 3 with fail
              rw [← HW1.out]
              refine wp_region_beh (by kernel_rfl) (by kernel_rfl) ?_
              repeat (go_big_quiet_step (first | (go_at_call 64; apply HNUM; first | exact .inl ⟨rfl, rfl⟩ | exact .inr (.inl ⟨rfl, rfl⟩) | exact .inr (.inr ⟨rfl, rfl⟩)) | (go_at_call 65; exact (HCRC _).out)))
              refine wpQuiet_nil ?_
              rintro _ ⟨t, rfl⟩
              have hrt := below_keeps t.ok R1.out (Array.getElem?_eq_some_iff.1 R1.out).1
              obtain ⟨g0, g1, g2, g3, gf⟩ := ar_cellsR hrt
              have HRT := hid hrt
              have HBT : Hid (Below w.heap.size w t.wd) := HB1.out.trans (t.ok.mono HB1.out.size)
              have hst : w.heap.size < t.wd.heap.size := (Array.getElem?_eq_some_iff.1 hrt).1
              obtain ⟨W2, hW2⟩ : ∃ W2, W2 = t.wd := ⟨_, rfl⟩
              rw [← hW2] at g0 g1 g2 g3 gf HRT HBT hst ⊢
              clear hrt hW2 HNUM HCRC
              go_wp2_with fail
              obtain ⟨hU, hkU⟩ := arR_put HRT.out (.int .i64 1) (.int .i64 0) (.slice none 0 0) (.int .i64 0)
              generalize ((((W2.setCell ⟨w.heap.size, 0, none⟩ (.int .i64 1)).setCell ⟨w.heap.size, 1, none⟩ (.int .i64 0)).setCell ⟨w.heap.size, 2, none⟩ (.slice none 0 0)).setCell ⟨w.heap.size, 3, none⟩ (.int .i64 0)) = U at *
              have z0 : U.cell? ⟨w.heap.size, 0, none⟩ = some (.int .i64 1) := by rw [cell_of_row _ _ _ _ _ _ hU]; rfl
              have z1 : U.cell? ⟨w.heap.size, 1, none⟩ = some (.int .i64 0) := by rw [cell_of_row _ _ _ _ _ _ hU]; rfl
              have z2 : U.cell? ⟨w.heap.size, 2, none⟩ = some (.slice none 0 0) := by rw [cell_of_row _ _ _ _ _ _ hU]; rfl
              have z3 : U.cell? ⟨w.heap.size, 3, none⟩ = some (.int .i64 0) := by rw [cell_of_row _ _ _ _ _ _ hU]; rfl
              refine bodyPost_ret (v := .agg #[.int .i64 1, .int .i64 0, (.slice none 0 0), .int .i64 0]) (by simp [results, Tryd.results41, go_sem, z0, z1, z2, z3]) rfl ⟨_, rfl, (.slice none 0 0), ?_, ?_, ?_⟩
              · rw [HE.out]; rfl
              · rw [HE.out]; exact seesBB_nil _
              · exact hkU.below HBT.out (HBT.out).size (fun k hk e => by unfold At1 at e; omega)
        · as_aux_lemma =>
            have HE : Hid (C = ⟨1, 0, [], 0⟩) := by
              unfold Hid
              rw [HC.out, rdA, if_neg (by have := HN.out; omega), if_pos (.inr (by rw [HHD.out]; simp [hk12]))]
            have q1 : ¬ (1048576 : Int) < (n : Int) := by omega
            have q2 : ((m0 : Int) != 2003134068) = false := by simp; omega
            have q3 : ((m12 : Int) != (cs : Int)) = true := by simp; omega
            clear HHD
            go_enter Tryd.func41, Tryd.ntmps41
            go_upto_region 3 with fail
            rw [← HW1.out]
            refine wp_region_beh (by kernel_rfl) (by kernel_rfl) ?_
            repeat (go_big_quiet_step (first | (go_at_call 64; apply HNUM; first | exact .inl ⟨rfl, rfl⟩ | exact .inr (.inl ⟨rfl, rfl⟩) | exact .inr (.inr ⟨rfl, rfl⟩)) | (go_at_call 65; exact (HCRC _).out)))
            refine wpQuiet_nil ?_
            rintro _ ⟨t, rfl⟩
            have hrt := below_keeps t.ok R1.out (Array.getElem?_eq_some_iff.1 R1.out).1
            obtain ⟨g0, g1, g2, g3, gf⟩ := ar_cellsR hrt
            have HRT := hid hrt
            have HBT : Hid (Below w.heap.size w t.wd) := HB1.out.trans (t.ok.mono HB1.out.size)
            have hst : w.heap.size < t.wd.heap.size := (Array.getElem?_eq_some_iff.1 hrt).1
            obtain ⟨W2, hW2⟩ : ∃ W2, W2 = t.wd := ⟨_, rfl⟩
            rw [← hW2] at g0 g1 g2 g3 gf HRT HBT hst ⊢
            clear hrt hW2 HNUM HCRC
            go_wp2_with fail
            obtain ⟨hU, hkU⟩ := arR_put HRT.out (.int .i64 1) (.int .i64 0) (.slice none 0 0) (.int .i64 0)
            generalize ((((W2.setCell ⟨w.heap.size, 0, none⟩ (.int .i64 1)).setCell ⟨w.heap.size, 1, none⟩ (.int .i64 0)).setCell ⟨w.heap.size, 2, none⟩ (.slice none 0 0)).setCell ⟨w.heap.size, 3, none⟩ (.int .i64 0)) = U at *
            have z0 : U.cell? ⟨w.heap.size, 0, none⟩ = some (.int .i64 1) := by rw [cell_of_row _ _ _ _ _ _ hU]; rfl
            have z1 : U.cell? ⟨w.heap.size, 1, none⟩ = some (.int .i64 0) := by rw [cell_of_row _ _ _ _ _ _ hU]; rfl
            have z2 : U.cell? ⟨w.heap.size, 2, none⟩ = some (.slice none 0 0) := by rw [cell_of_row _ _ _ _ _ _ hU]; rfl
            have z3 : U.cell? ⟨w.heap.size, 3, none⟩ = some (.int .i64 0) := by rw [cell_of_row _ _ _ _ _ _ hU]; rfl
            refine bodyPost_ret (v := .agg #[.int .i64 1, .int .i64 0, (.slice none 0 0), .int .i64 0]) (by simp [results, Tryd.results41, go_sem, z0, z1, z2, z3]) rfl ⟨_, rfl, (.slice none 0 0), ?_, ?_, ?_⟩
            · rw [HE.out]; rfl
            · rw [HE.out]; exact seesBB_nil _
            · exact hkU.below HBT.out (HBT.out).size (fun k hk e => by unfold At1 at e; omega)
      · as_aux_lemma =>
          have HE : Hid (C = ⟨1, 0, [], 0⟩) := by
            unfold Hid
            rw [HC.out, rdA, if_neg (by have := HN.out; omega), if_pos (.inr (by rw [HHD.out]; simp [hk0]))]
          have q1 : ¬ (1048576 : Int) < (n : Int) := by omega
          have q2 : ((m0 : Int) != 2003134068) = true := by simp; omega
          clear HHD
          go_enter Tryd.func41, Tryd.ntmps41
          go_upto_region 3 with fail
          rw [← HW1.out]
          refine wp_region_beh (by kernel_rfl) (by kernel_rfl) ?_
          repeat (go_big_quiet_step (first | (go_at_call 64; apply HNUM; first | exact .inl ⟨rfl, rfl⟩ | exact .inr (.inl ⟨rfl, rfl⟩) | exact .inr (.inr ⟨rfl, rfl⟩)) | (go_at_call 65; exact (HCRC _).out)))
          refine wpQuiet_nil ?_
          rintro _ ⟨t, rfl⟩
          have hrt := below_keeps t.ok R1.out (Array.getElem?_eq_some_iff.1 R1.out).1
          obtain ⟨g0, g1, g2, g3, gf⟩ := ar_cellsR hrt
          have HRT := hid hrt
          have HBT : Hid (Below w.heap.size w t.wd) := HB1.out.trans (t.ok.mono HB1.out.size)
          have hst : w.heap.size < t.wd.heap.size := (Array.getElem?_eq_some_iff.1 hrt).1
          obtain ⟨W2, hW2⟩ : ∃ W2, W2 = t.wd := ⟨_, rfl⟩
          rw [← hW2] at g0 g1 g2 g3 gf HRT HBT hst ⊢
          clear hrt hW2 HNUM HCRC
          go_wp2_with fail
          obtain ⟨hU, hkU⟩ := arR_put HRT.out (.int .i64 1) (.int .i64 0) (.slice none 0 0) (.int .i64 0)
          generalize ((((W2.setCell ⟨w.heap.size, 0, none⟩ (.int .i64 1)).setCell ⟨w.heap.size, 1, none⟩ (.int .i64 0)).setCell ⟨w.heap.size, 2, none⟩ (.slice none 0 0)).setCell ⟨w.heap.size, 3, none⟩ (.int .i64 0)) = U at *
          have z0 : U.cell? ⟨w.heap.size, 0, none⟩ = some (.int .i64 1) := by rw [cell_of_row _ _ _ _ _ _ hU]; rfl
          have z1 : U.cell? ⟨w.heap.size, 1, none⟩ = some (.int .i64 0) := by rw [cell_of_row _ _ _ _ _ _ hU]; rfl
          have z2 : U.cell? ⟨w.heap.size, 2, none⟩ = some (.slice none 0 0) := by rw [cell_of_row _ _ _ _ _ _ hU]; rfl
          have z3 : U.cell? ⟨w.heap.size, 3, none⟩ = some (.int .i64 0) := by rw [cell_of_row _ _ _ _ _ _ hU]; rfl
          refine bodyPost_ret (v := .agg #[.int .i64 1, .int .i64 0, (.slice none 0 0), .int .i64 0]) (by simp [results, Tryd.results41, go_sem, z0, z1, z2, z3]) rfl ⟨_, rfl, (.slice none 0 0), ?_, ?_, ?_⟩
          · rw [HE.out]; rfl
          · rw [HE.out]; exact seesBB_nil _
          · exact hkU.below HBT.out (HBT.out).size (fun k hk e => by unfold At1 at e; omega)
end Go.Proofs.YteoebmpfdcbbmacDoor
