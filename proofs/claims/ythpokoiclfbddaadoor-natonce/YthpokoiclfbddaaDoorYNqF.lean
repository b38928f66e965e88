import Derived.Test.YthpokoiclfbddaaDoorYNqE
namespace Go.Proofs.YthpokoiclfbddaaDoor.Nq
open Go.Proofs.YthpokoiclfbddaaDoor Go.ChangeShapes Go.WideShapes Go.ChangeAt Go.RowKit Go.Maps Fl
open Go.Proofs.YthpokoiclfbddaaDoor.N hiding But But.set But.of_below But.refl But.trans But.below But.drew wpList_ld
set_option maxHeartbeats 2000000
set_option maxRecDepth 100000

structure Bd where
  a : Nat
  p : Nat
deriving DecidableEq
def Bd.cells (x : Bd) : Array Value := bkC x.a x.p
def Bd.Ok (x : Bd) : Prop := x.a < 4294967296 ∧ x.p < 65536
def zBd : Bd := ⟨0, 0⟩
def wg (h : Nat) (x : Bd) : Nat := wgt h x.a x.p
/-- A list of backends that one looks at. -/
def SeesK (w : World) (v : Value) (L : List Bd) : Prop :=
  ∃ ao cap, v = .slice ao L.length cap ∧ L.length ≤ cap ∧ cap ≤ maxLen ∧ ∀ j (h : j < L.length), ∃ g off, ao = some ⟨g, off, none⟩ ∧ g < w.heap.size ∧ w.cell? ⟨g, off + j * 2, none⟩ = some (.int .u32 (L[j].a : Int)) ∧ w.cell? ⟨g, off + j * 2 + 1, none⟩ = some (.int .u16 (L[j].p : Int)) ∧ L[j].Ok
theorem SeesK.below {w w' : World} {v : Value} {L : List Bd} (h : SeesK w v L) (hb : Below w.heap.size w w') : SeesK w' v L := by
  obtain ⟨ao, cap, hv, h0, h1, h2⟩ := h
  refine ⟨ao, cap, hv, h0, h1, fun j hj => ?_⟩
  obtain ⟨g, off, ha, hg, c0, c1, hok⟩ := h2 j hj
  have e := hb.block g hg
  refine ⟨g, off, ha, Nat.lt_of_lt_of_le hg hb.size, ?_, ?_, hok⟩
  · unfold World.cell? at c0 ⊢; simp only at c0 ⊢; rw [e]; exact c0
  · unfold World.cell? at c1 ⊢; simp only at c1 ⊢; rw [e]; exact c1
theorem SeesK.ok {w : World} {v : Value} {L : List Bd} (h : SeesK w v L) : ∀ x ∈ L, x.Ok := fun x hx => by
  obtain ⟨ao, cap, hv, h0, h1, h2⟩ := h
  obtain ⟨j, hj, rfl⟩ := List.getElem_of_mem hx
  exact (h2 j hj).choose_spec.choose_spec.2.2.2.2

/-- The best of the first k. -/
def bst (h : Nat) (L : List Bd) : Nat → Nat × Nat
  | 0 => (0, wg h (L.getD 0 zBd))
  | k + 1 => if (bst h L k).2 < wg h (L.getD k zBd) then (k, wg h (L.getD k zBd)) else bst h L k
def pickE (L : List Bd) : Int := if 256 < L.length then 2 else if L.length = 0 then 232 else 0
def pickN (t : Tu) (L : List Bd) : Nat := if 256 < L.length then 0 else if L.length = 0 then 0 else (bst (hashT t) L L.length).1
theorem bst_lt (h : Nat) (L : List Bd) (k : Nat) : (bst h L k).2 < 18446744073709551616 ∧ (bst h L k).1 ≤ k := by
  induction k with
  | zero => exact ⟨wgt_lt _ _ _, Nat.le_refl _⟩
  | succ k ih =>
    unfold bst
    split
    · exact ⟨wgt_lt _ _ _, by show k ≤ k + 1; omega⟩
    · exact ⟨ih.1, by omega⟩

theorem pick_any (t : Tu) (v : Value) (L : List Bd) (w : World) (ht : t.Ok) (hv : SeesK w v L) :
    Calls Tryd.prog 20 #[.agg t.cells, v] w fun e w' => e = .returned (.tuple #[.int .i64 ((pickN t L : Nat) : Int), .int .i64 (pickE L)]) ∧ Below w.heap.size w w' := by
  obtain ⟨w0, HW0⟩ : ∃ w0, Hid (w0 = w.alloc (.cells t.cells 38)) := ⟨_, rfl⟩
  have hb0 : Below w.heap.size w w0 := by rw [HW0.out]; exact (Below.refl _ _).alloc (Nat.le_refl _) _
  obtain ⟨b, HB⟩ : ∃ b, Hid (b = w.heap.size) := ⟨_, rfl⟩
  have r0 : w0.heap[b]? = some (.cells t.cells 38 (0, 0)) := by rw [HW0.out, HB.out]; exact heap_alloc_new w _
  have HV := hid (hv.below hb0)
  have HOK := hid hv.ok
  obtain ⟨ao, cap, rfl, hcp, hcm, -⟩ := hv
  obtain ⟨n, HN⟩ : ∃ n, Hid (n = L.length) := ⟨_, rfl⟩
  rw [← HN.out] at hcp ⊢
  have HB0 := hid hb0
  have LT := hid (load_tu r0)
  have HHO := hid (hashOf_any t w0 ht)
  have HHL := hid (hashT_lt t)
  clear hb0 r0 hcm
  by_cases h1 : 256 < n
  · have e1 : pickE L = 2 := by unfold pickE; rw [if_pos (by rw [← HN.out]; exact h1)]
    have e2 : pickN t L = 0 := by unfold pickN; rw [if_pos (by rw [← HN.out]; exact h1)]
    rw [e1, e2]
    have q1 : (256 : Int) < (n : Int) := by omega
    generalize t.cells = tc at *
    clear h1 e1 e2 ht
    go_enter Tryd.func20, Tryd.ntmps20
    go_upto_region 1 with fail
    rw [← HW0.out]
    go_wp2_with fail
    refine bodyPost_ret (results_tmp2 Tryd.results20 _ _ _) rfl ?_
    exact ⟨rfl, HB0.out⟩
  · by_cases h2 : n = 0
    · have e1 : pickE L = 232 := by unfold pickE; rw [if_neg (by rw [← HN.out]; exact h1), if_pos (by rw [← HN.out]; exact h2)]
      have e2 : pickN t L = 0 := by unfold pickN; rw [if_neg (by rw [← HN.out]; exact h1), if_pos (by rw [← HN.out]; exact h2)]
      rw [e1, e2]
      have q1 : ¬ (256 : Int) < (n : Int) := by omega
      have q2 : ((n : Int) == 0) = true := by simp [h2]
      generalize t.cells = tc at *
      clear h1 h2 e1 e2 ht
      go_enter Tryd.func20, Tryd.ntmps20
      go_upto_region 1 with fail
      rw [← HW0.out]
      go_wp2_with fail
      refine bodyPost_ret (results_tmp2 Tryd.results20 _ _ _) rfl ?_
      exact ⟨rfl, HB0.out⟩
    · have e1 : pickE L = 0 := by unfold pickE; rw [if_neg (by rw [← HN.out]; exact h1), if_neg (by rw [← HN.out]; exact h2)]
      have e2 : pickN t L = (bst (hashT t) L n).1 := by unfold pickN; rw [if_neg (by rw [← HN.out]; exact h1), if_neg (by rw [← HN.out]; exact h2), HN.out]
      rw [e1, e2]
      have q1 : ¬ (256 : Int) < (n : Int) := by omega
      have q2 : ((n : Int) == 0) = false := by simp; omega
      have hn6 : n ≤ 256 := by omega
      have hn0 : 0 < n := by omega
      obtain ⟨hh, HHD⟩ : ∃ x, Hid (x = hashT t) := ⟨_, rfl⟩
      rw [← HHD.out] at HHO HHL ⊢
      have HENT : Hid (∀ j, j < n → ∃ g off, ao = some ⟨g, off, none⟩ ∧ (L.getD j zBd).Ok ∧ ∀ u, Below w0.heap.size w0 u → (Instr.loadAt 53 (.pointer (some ⟨g, off + j * 2, none⟩))).run Tryd.prog u = .ok (.agg (L.getD j zBd).cells) u) := fun j hj => by
        obtain ⟨ao', cap', e, -, -, h5⟩ := HV.out
        simp only [Value.slice.injEq] at e
        obtain ⟨rfl, -, rfl⟩ := e
        have hjl : j < L.length := by rw [← HN.out]; exact hj
        obtain ⟨g, off, ha, hg, c0, c1, hok⟩ := h5 j hjl
        have eg : L.getD j zBd = L[j] := by rw [List.getD_eq_getElem?_getD, List.getElem?_eq_getElem hjl]; rfl
        refine ⟨g, off, ha, by rw [eg]; exact hok, fun u hu => ?_⟩
        have e := hu.block g hg
        rw [eg]
        refine bk_ld ?_ ?_
        · unfold World.cell? at c0 ⊢; simp only at c0 ⊢; rw [e]; exact c0
        · unfold World.cell? at c1 ⊢; simp only at c1 ⊢; rw [e]; exact c1
      have HWT : Hid (∀ (x : Bd) u, x.Ok → Calls Tryd.prog 40 #[.int .u64 (hh : Int), .agg x.cells] u fun e w' => e = .returned (.int .u64 ((wg hh x : Nat) : Int)) ∧ Below u.heap.size u w') := fun x u hx => weight_any hh x.a x.p u HHL.out hx.1 hx.2
      obtain ⟨g, off, rfl, hok0, hld0⟩ := HENT.out 0 hn0
      have HX0 := hid hok0
      have HL0 := hid hld0
      rw [Nat.zero_mul, Nat.add_zero] at HL0
      have HBS0 : Hid (bst hh L 0 = (0, wg hh (L.getD 0 zBd))) := rfl
      generalize L.getD 0 zBd = x0 at HX0 HL0 HBS0
      generalize t.cells = tc at *
      clear h1 h2 e1 e2 ht hok0 hld0 HV
      have hn0' : (0 : Int) < (n : Int) := by omega
      go_enter Tryd.func20, Tryd.ntmps20
      go_upto_region 1 with fail
      rw [← HW0.out, ← HB.out]
      go_wp2_with (first | (refine wpList_ld 38 ⟨b, 0, none⟩ (.tmp 2) rfl rfl LT.out rfl ?_) | fail)
      refine HHO.out.mono ?_
      rintro _ w1 ⟨rfl, hb1⟩
      have HB1 := hid hb1
      have HL1 := hid (HL0.out w1 hb1)
      clear hb1
      go_wp2_with (first | (refine wpList_ld 53 ⟨g, off, none⟩ (.tmp 24) rfl rfl HL1.out rfl ?_) | fail)
      refine (HWT.out x0 w1 HX0.out).mono ?_
      rintro _ w2 ⟨rfl, hb2⟩
      have HR0 : Hid (Below w0.heap.size w0 w2) := HB1.out.trans (hb2.mono HB1.out.size)
      clear hb2 HL1
      go_wp2_with fail
      go_loopw [29, 7, 8] (fun iv nv mv wr => ∃ i : Nat, iv = .int .i64 (i : Int) ∧ nv = .int .i64 (((bst hh L i).1 : Nat) : Int) ∧ mv = .int .u64 (((bst hh L i).2 : Nat) : Int) ∧ i ≤ n ∧ Hid (Below w0.heap.size w0 wr)) (fun iv _ _ _ => match iv with | .int _ z => n - z.toNat | _ => 0)
      case atStart => exact ⟨0, rfl, by rw [HBS0.out]; rfl, by rw [HBS0.out], Nat.zero_le _, HR0⟩
      case round =>
        obtain ⟨i, rfl, rfl, rfl, hi, HR⟩ := hrel
        by_cases hin : i < n
        · have h1 : (i : Int) < (n : Int) := by omega
          have h2 : (0 : Int) ≤ (i : Int) := by omega
          have h3 : decide ((i : Int) < 0) = false := by simp
          have wi : IntKind.i64.wrap ((i : Int) + 1) = ((i + 1 : Nat) : Int) := by rw [IntKind.wrap_i64]; omega
          obtain ⟨g', off', e, hok, hld⟩ := HENT.out i hin
          injection e with e
          injection e with e1 e2
          subst e1 e2
          have HOKI := hid hok
          have HLI := hid (hld wr HR.out)
          have HSTEP : Hid (bst hh L (i + 1) = if (bst hh L i).2 < wg hh (L.getD i zBd) then (i, wg hh (L.getD i zBd)) else bst hh L i) := rfl
          generalize L.getD i zBd = x at *
          obtain ⟨bi, HBI⟩ : ∃ z, Hid (z = (bst hh L i).1) := ⟨_, rfl⟩
          obtain ⟨mi, HMI⟩ : ∃ z, Hid (z = (bst hh L i).2) := ⟨_, rfl⟩
          rw [← HMI.out] at HSTEP ⊢
          rw [← HBI.out]
          clear hok hld
          have HNA : Hid ((wr.alloc (.cells #[.int .u32 0, .int .u16 0] 53)).heap[wr.heap.size]? = some (.cells zBd.cells 53 (0, 0))) := heap_alloc_new _ _
          go_upto_region 10 with (first | (refine wpList_ld 53 ⟨g, off + i * 2, none⟩ (.tmp 32) rfl rfl HLI.out rfl ?_) | (refine wpList_st rfl 53 (.tmp 10) (.tmp 33) rfl wr.heap.size x.cells rfl rfl _ zBd.cells HNA.out (by kernel_rfl) rfl (bk_one _ _) ?_; intro w3 hw3 hbut3) | fail)
          have hb3 : Below wr.heap.size wr w3 := hbut3.below ((Below.refl _ _).alloc (Nat.le_refl _) _) (by simp) (Nat.le_refl _)
          obtain ⟨g10, HG10⟩ : ∃ g, Hid (g = wr.heap.size) := ⟨_, rfl⟩
          rw [← HG10.out] at hw3 ⊢
          have HL3 : Hid ((Instr.loadAt 53 (.pointer (some ⟨g10, 0, none⟩))).run Tryd.prog w3 = .ok (.agg x.cells) w3) := bk_ld (a := x.a) (p := x.p) (by rw [cell_of_row _ _ _ _ _ _ hw3]; rfl) (by rw [cell_of_row _ _ _ _ _ _ hw3]; rfl)
          have HR3 := hid (HR.out.trans (hb3.mono HR.out.size))
          clear hw3 hb3 hbut3 HNA HLI
          go_wp2_with (first | (refine wpList_ld 53 ⟨g10, 0, none⟩ (.tmp 10) rfl rfl HL3.out rfl ?_) | fail)
          refine (HWT.out x w3 HOKI.out).mono ?_
          rintro _ w4 ⟨rfl, hb4⟩
          have HR4 := hid (HR3.out.trans (hb4.mono HR3.out.size))
          clear hb4 HL3
          generalize wg hh x = wx at *
          by_cases hc : mi < wx
          · have q : (mi : Int) < (wx : Int) := by omega
            have HS : Hid (bst hh L (i + 1) = (i, wx)) := by unfold Hid; rw [HSTEP.out, if_pos hc]
            clear hc HSTEP
            go_wp2_with fail
            go_roundw
            case rel => exact ⟨i + 1, rfl, by rw [HS.out], by rw [HS.out], by omega, HR4⟩
            case measure => simp; omega
          · have q : ¬ (mi : Int) < (wx : Int) := by omega
            have HS : Hid (bst hh L (i + 1) = bst hh L i) := by unfold Hid; rw [HSTEP.out, if_neg hc]
            clear hc HSTEP
            go_wp2_with fail
            go_roundw
            case rel => exact ⟨i + 1, rfl, by rw [HS.out, HBI.out], by rw [HS.out, HMI.out], by omega, HR4⟩
            case measure => simp; omega
        · have h1 : ¬ (i : Int) < (n : Int) := by omega
          have HI : Hid (i = n) := by unfold Hid; omega
          go_wp2_with fail
          refine bodyPost_ret (results_tmp2 Tryd.results20 _ _ _) rfl ?_
          exact ⟨by rw [← HI.out]; rfl, HB0.out.trans (HR.out.mono HB0.out.size)⟩
end Go.Proofs.YthpokoiclfbddaaDoor.Nq
