/-
  slices.Delete, drop, join.
-/
import Derived.Test.YtaelfhjhinfikabDC
namespace Go.Proofs.Ytaelfhjhinfikab
open Go.ChangeShapes Go.WideShapes Go.ChangeAt Go.RowKit Me
set_option maxHeartbeats 2000000
set_option maxRecDepth 100000

theorem cutS_mid (g n cap m q : Nat) (hmq : m < q) (hq : q ≤ cap) (u : World) : (Instr.sliceAt 33 (.slice (some ⟨g, 0, none⟩) n cap) (some (.int .i64 (m : Int))) (some (.int .i64 (q : Int))) none).run Try.prog u = .ok (.slice (some ⟨g, m * 2, none⟩) (q - m) (cap - m)) u := by
  rw [run_sliceAt_slice (h := ueS), run_slice_lh (ht := ueS) (h0 := by omega) (h1 := by omega) (h2 := by omega), szeS]
  have hne : ¬ cap = m := by omega
  simp [Result.andThen, sliced, hne, Addr.add]
  omega

theorem cutS_three (g n cap m q : Nat) (hmq : m ≤ q) (hq : q ≤ n) (hn : n ≤ cap) : ∃ A : Option Addr, ∃ a b : Nat, ∀ u : World, (Instr.sliceAt 33 (.slice (some ⟨g, 0, none⟩) n cap) (some (.int .i64 (m : Int))) (some (.int .i64 (q : Int))) (some (.int .i64 (n : Int)))).run Try.prog u = .ok (.slice A a b) u := by
  refine ⟨if n = m then some ⟨g, 0, none⟩ else some ((⟨g, 0, none⟩ : Addr).add (m * 2)), q - m, n - m, fun u => ?_⟩
  rw [run_sliceAt_slice (h := ueS), run_slice_lhm (ht := ueS) (h0 := by omega) (h1 := by omega) (h2 := by omega) (h3 := by omega), szeS]
  by_cases hne : n = m <;> simp [Result.andThen, sliced, hne]

theorem delete_any (w : World) (g n cap i : Nat) (E : List En) (h : Fl w (.slice (some ⟨g, 0, none⟩) n cap) E) (hi : i < n) :
    Calls Try.prog 41 #[.slice (some ⟨g, 0, none⟩) n cap, .int .i64 (i : Int), .int .i64 ((i : Int) + 1)] w fun e w' => e = .returned (.slice (some ⟨g, 0, none⟩) (n - 1) cap) ∧ Fl w' (.slice (some ⟨g, 0, none⟩) (n - 1) cap) (E.eraseIdx i) ∧ Keeps (fun k => k = g) w w' := by
  have hnc : n ≤ cap := by obtain ⟨_, _, hv, h1, _⟩ := row_len h.row; simp at hv; obtain ⟨rfl, rfl, rfl⟩ := hv; exact h1
  have hcm : cap ≤ maxLen := by obtain ⟨_, _, hv, h1, h2, _⟩ := row_len h.row; simp at hv; obtain ⟨rfl, rfl, rfl⟩ := hv; exact h2
  unfold maxLen at hcm
  obtain ⟨A, hA1, HAA⟩ : ∃ A : Addr, (if cap = i + 1 then some (⟨g, 0, none⟩ : Addr) else some ⟨g, (i + 1) * 2, none⟩) = some A ∧ (i + 1 < n → A = ⟨g, (i + 1) * 2, none⟩) := by
    by_cases e : cap = i + 1
    · exact ⟨_, if_pos e, fun h => by omega⟩
    · exact ⟨_, if_neg e, fun _ => rfl⟩
  have hdr : Below w.heap.size w w.drew := below_drew (Below.refl _ _)
  obtain ⟨w1, w2, hap, hcl, hf2, hk2⟩ := delete_run w.drew g n cap i E A (h.below hdr) hi HAA
  have e1 : i + (n - (i + 1)) = n - 1 := by omega
  rw [e1] at hap
  obtain ⟨n1, HN1⟩ : ∃ n1, Hid (n1 = n - 1) := ⟨_, rfl⟩
  have hc2 := fun u => cutS_mid g n1 cap n1 n (by have := HN1.out; omega) hnc u
  have e2 : n - n1 = 1 := by have := HN1.out; omega
  rw [e2] at hc2
  rw [← HN1.out] at hap hcl hf2 ⊢
  obtain ⟨A3, a3, b3, h3⟩ := cutS_three g n cap i (i + 1) (by omega) (by omega) hnc
  rw [show ((i + 1 : Nat) : Int) = (i : Int) + 1 by omega] at h3
  have HAP := hid hap
  have hcl1 := fun ty => hcl ty (cap - n1)
  have HFIN : Hid (Fl w2 (.slice (some ⟨g, 0, none⟩) n1 cap) (E.eraseIdx i) ∧ Keeps (fun k => k = g) w w2) := ⟨hf2, (Keeps.of hdr).trans hk2⟩
  have hn1 : n1 ≤ cap := by have := HN1.out; omega
  have q1 : ((i : Int) == (i : Int) + 1) = false := by simp; omega
  have q2 : ¬ (i : Int) = (i : Int) + 1 := by omega
  have hw2 : ((i : Int) + 1).toNat = i + 1 := by omega
  have hw3 : (i : Int) + 1 ≤ (n : Int) := by omega
  have hw4 : (0 : Int) ≤ (i : Int) + 1 := by omega
  have hw5 : i ≤ cap := by omega
  clear h hdr hap hcl hf2 hk2 HAA e1 e2
  go_enter Try.func41, Try.ntmps41
  go_upto_region 5 with fail
  go_region_law (first | (refine step_append_run rfl _ _ _ _ rfl _ _ rfl rfl (HAP.out _) ?_) | fail)
  all_goals (
    go_wp2_with fail
    go_ret
    exact ⟨rfl, HFIN.out.1, HFIN.out.2⟩)

theorem drop_any (w : World) (pb m i : Nat) (v : Value) (E : List En) (h : HAt 60 (mkN m) w pb v E) (hi : i < E.length) :
    Calls Try.prog 38 #[.pointer (some ⟨pb, 0, none⟩), .int .i64 (i : Int)] w fun e w' => e = .returned (.tuple #[]) ∧ ∃ v', HTurn 60 (mkN m) w w' pb v E v' (E.eraseIdx i) := by
  obtain ⟨-, c1, -⟩ := h.cellsN
  obtain ⟨a, n, cap, rfl, HN, hn1, hn2, -⟩ := h.fl.shape
  unfold maxLen at hn2
  obtain ⟨g, rfl, hg, -⟩ := h.fl.at (List.getElem?_eq_getElem hi)
  have hin : i < n := by have := HN.out; omega
  have HD := hid (delete_any w g n cap i E h.fl hin)
  have HT : Hid (∀ w2 : World, Fl w2 (.slice (some ⟨g, 0, none⟩) (n - 1) cap) (E.eraseIdx i) → Keeps (fun k => k = g) w w2 → HTurn 60 (mkN m) w (w2.setCell ⟨pb, 1, none⟩ (.slice (some ⟨g, 0, none⟩) (n - 1) cap)) pb (.slice (some ⟨g, 0, none⟩) n cap) E (.slice (some ⟨g, 0, none⟩) (n - 1) cap) (E.eraseIdx i) ∧ w2.heap[pb]? = w.heap[pb]?) := fun w2 h1 h2 => by
    have hne : pb ≠ g := fun e => by
      obtain ⟨cs, h3⟩ := row_kind h.fl.row (k := g) rfl
      have := h.row
      rw [e, h3] at this
      simp at this
    exact ⟨h.store (S := fun k => k = g) (by decide) 1 rfl h2 (fun k e => .inl (by rw [e]; rfl)) h1 (fun k hk => .inl (by
      rcases hk with hk | ⟨e, he, hk⟩
      · exact .inl hk
      · exact .inr ⟨e, List.mem_of_mem_eraseIdx he, hk⟩)), h2.block pb (Array.getElem?_eq_some_iff.1 h.row).1 hne⟩
  have HROW := hid h.row
  have hw1 : (i : Int) + 1 ≤ 9223372036854775807 := by omega
  clear h hg
  go_enter Try.func38, Try.ntmps38
  go_wp2_with fail
  refine HD.out.mono ?_
  rintro _ w2 ⟨rfl, hf2, hk2⟩
  obtain ⟨t2, r2⟩ := HT.out w2 hf2 hk2
  rw [HROW.out] at r2
  have d1 : w2.cell? ⟨pb, 1, none⟩ = some (.slice (some ⟨g, 0, none⟩) n cap) := by rw [cell_of_row _ _ _ _ _ _ r2]; rfl
  have d2 : w2.frozen? ⟨pb, 1, none⟩ = false := frozen_of_row _ _ _ _ _ r2
  have T2 := hid t2
  generalize n - 1 = n1 at *
  clear hf2 hk2 HT t2 r2 HD
  go_wp2_with fail
  exact bodyPost_end (results_none Try.results38 _ _ _) rfl ⟨rfl, _, T2.out⟩

theorem join_any (w : World) (K : Nat → Prop) (pb m ad : Nat) (v u : Value) (E : List En) (L : List Nat) (h : HAt 60 (mkN m) w pb v E) (hu : SeesB K w u L) (had : ad < 4294967296) (hE : E.length ≤ 4096) :
    Calls Try.prog 32 #[.pointer (some ⟨pb, 0, none⟩), .agg #[.int .u32 (ad : Int), u]] w fun e w' => e = .returned (.int .i64 ((joE m (E.map En.pk) ⟨ad, L⟩ : Nat) : Int)) ∧ ∃ v' E', HTurn 60 (mkN m) w w' pb v E v' E' ∧ E'.map En.pk = joS m (E.map En.pk) ⟨ad, L⟩ := by
  obtain ⟨a, n, cap, rfl, HN, hn1, hn2, -⟩ := h.fl.shape
  obtain ⟨pa, q, pc, rfl, HQ, hq1, hq2⟩ := hu.shape
  unfold maxLen at hn2 hq2
  obtain ⟨w1, HW1⟩ : ∃ w1, Hid (w1 = w.alloc (.cells #[.int .u32 (ad : Int), .slice pa q pc] 41)) := ⟨_, rfl⟩
  have hb1 : Below w.heap.size w w1 := by rw [HW1.out]; exact (Below.refl _ _).alloc (Nat.le_refl _) _
  obtain ⟨b, HB⟩ : ∃ b, Hid (b = w.heap.size) := ⟨_, rfl⟩
  have r1 : w1.heap[b]? = some (.cells #[.int .u32 (ad : Int), .slice pa q pc] 41 (0, 0)) := by rw [HW1.out, HB.out]; exact heap_alloc_new w _
  have c0 : w1.cell? ⟨b, 0, none⟩ = some (.int .u32 (ad : Int)) := by rw [cell_of_row _ _ _ _ _ _ r1]; rfl
  have c1 : w1.cell? ⟨b, 1, none⟩ = some (.slice pa q pc) := by rw [cell_of_row _ _ _ _ _ _ r1]; rfl
  obtain ⟨d0, d1, d2⟩ := (h.below hb1).cellsN
  have HB1 := hid hb1
  have HH := hid h
  have HH1 := hid (h.below hb1)
  have HU1 := hid (hu.below hb1)
  have R1 := hid r1
  obtain ⟨J, HJ⟩ : ∃ J, Hid (J = joE m (E.map En.pk) ⟨ad, L⟩) := ⟨_, rfl⟩
  rw [← HJ.out]
  have HJS : Hid (∀ E' : List En, E'.map En.pk = (if J = 0 then E.map En.pk ++ [⟨ad, L⟩] else E.map En.pk) → E'.map En.pk = joS m (E.map En.pk) ⟨ad, L⟩) := fun E' h => by
    rw [h]; unfold joS; rw [← HJ.out]
  by_cases hl : 65535 < q
  · have HE : Hid (J = 2) := by unfold Hid; rw [HJ.out]; unfold joE; simp only; rw [if_pos (by have := HQ.out; omega)]
    have hl' : (65535 : Int) < (q : Int) := by omega
    have HFIN : Hid (HTurn 60 (mkN m) w w1 pb (.slice a n cap) E (.slice a n cap) E) := HTurn.same h hb1
    clear h hu hb1 r1 d0 d1 d2 hl
    go_enter Try.func32, Try.ntmps32
    go_upto_region 1 with fail
    rw [← HW1.out, ← HB.out]
    go_wp2_with fail
    go_ret
    refine ⟨by rw [HE.out]; rfl, _, _, HFIN.out, HJS.out _ ?_⟩
    rw [if_neg (by rw [HE.out]; decide)]
  · have hl' : ¬ (65535 : Int) < (q : Int) := by omega
    by_cases hm : m ≤ n
    · have HE : Hid (J = 4) := by
        unfold Hid; rw [HJ.out]; unfold joE; simp only; rw [if_neg (by have := HQ.out; omega), if_pos (by rw [List.length_map]; have := HN.out; omega)]
      have hm' : (m : Int) ≤ (n : Int) := by omega
      clear h hu hb1 r1 hl
      go_enter Try.func32, Try.ntmps32
      go_upto_region 1 with fail
      rw [← HW1.out, ← HB.out]
      go_upto_region 3 with fail
      go_quiet (fail)
      have HFIN : Hid (HTurn 60 (mkN m) w (w1.drewN nq) pb (.slice a n cap) E (.slice a n cap) E) := HTurn.same HH.out (below_drewN HB1.out _)
      go_wp2_with fail
      go_ret
      refine ⟨by rw [HE.out]; rfl, _, _, HFIN.out, HJS.out _ ?_⟩
      rw [if_neg (by rw [HE.out]; decide)]
    · have HE : Hid (J = 0) := by
        unfold Hid; rw [HJ.out]; unfold joE; simp only; rw [if_neg (by have := HQ.out; omega), if_neg (by rw [List.length_map]; have := HN.out; omega)]
      have hm' : ¬ (m : Int) ≤ (n : Int) := by omega
      have HLL : Hid (L.length ≤ 65535) := by have := HQ.out; unfold Hid; omega
      have HTW : Hid (∀ u1 : World, Below w1.heap.size w1 u1 → Calls Try.prog 34 #[.agg #[.int .u32 (ad : Int), .slice pa q pc]] u1 fun e w' => ∃ a n c, e = .returned (.agg #[.int .u32 (ad : Int), .slice a n c]) ∧ OwnB w' u1.heap.size (.slice a n c) L ∧ Below u1.heap.size u1 w') := fun u1 h1 => twin_any u1 K ad _ L (HU1.out.below h1) HLL.out
      have HBY : Hid (∀ x ∈ L, x < 256) := hu.bytes
      have HFIN : Hid (∀ (u1 w3 : World) (a3 : Option Addr) (n3 c3 : Nat), Below w1.heap.size w1 u1 → OwnB w3 u1.heap.size (.slice a3 n3 c3) L → Below u1.heap.size u1 w3 → ∃ a5 n5 c5 w5, (∀ ty, (Builtin.append_ #[33, 33] ty #[.slice a n cap, .slice (some ⟨w3.heap.size, 0, none⟩) 1 1]).run Try.prog (w3.alloc (.cells #[.int .u32 (ad : Int), .slice a3 n3 c3] 41)) = .ok (.slice a5 n5 c5) w5) ∧ w5.heap[pb]? = some (.cells (mkN m (.slice a n cap)) 60 (0, 0)) ∧ HTurn 60 (mkN m) w (w5.setCell ⟨pb, 1, none⟩ (.slice a5 n5 c5)) pb (.slice a n cap) E (.slice a5 n5 c5) (E ++ [⟨ad, L, .slice a3 n3 c3⟩])) := by
        intro u1 w3 a3 n3 c3 h1 h2 h3
        have hb3 : Below w.heap.size w w3 := (HB1.out.trans (h1.mono HB1.out.size)).trans (h3.mono (Nat.le_trans HB1.out.size h1.size))
        have hb4 : Below w.heap.size w (w3.alloc (.cells #[.int .u32 (ad : Int), .slice a3 n3 c3] 41)) := hb3.alloc hb3.size _
        have hk := heap_alloc_new w3 (.cells #[.int .u32 (ad : Int), .slice a3 n3 c3] 41)
        have h4 := HH.out.below hb4
        have ho4 : OwnB (w3.alloc (.cells #[.int .u32 (ad : Int), .slice a3 n3 c3] 41)) 0 (.slice a3 n3 c3) L := (h2.below ((Below.refl _ _).alloc (Nat.le_refl _) _)).low (Nat.zero_le _)
        have hnew : ∀ k, Value.ownBlock (.slice a3 n3 c3) = some k → w.heap.size ≤ k := fun k hk => by
          have := (h2.lt hk).1; have := HB1.out.size; have := h1.size; omega
        have key := fun ty => append_en (w3.alloc (.cells #[.int .u32 (ad : Int), .slice a3 n3 c3] 41)) ty (.slice a n cap) E ⟨ad, L, .slice a3 n3 c3⟩ w3.heap.size h4.fl (by rw [cell_of_row _ _ _ _ _ _ hk]; rfl) (by rw [cell_of_row _ _ _ _ _ _ hk]; rfl) ho4 ⟨had, HLL.out, HBY.out⟩ (fun x hx k hk hk2 => by
          have h5 := hnew k hk2
          have h6 := HH.out.lt (.inr (.inr ⟨x, hx, hk⟩))
          omega) (by omega)
        obtain ⟨v5, w5, hr, hf, hk5, hn5⟩ := key 0
        obtain ⟨a5, n5, c5, rfl, -⟩ := hf.shape
        refine ⟨a5, n5, c5, w5, fun ty => ?_, ?_, ?_⟩
        · obtain ⟨v6, w6, hr6, -⟩ := key ty
          have : (Builtin.append_ #[33, 33] ty #[.slice a n cap, .slice (some ⟨w3.heap.size, 0, none⟩) 1 1]).run Try.prog (w3.alloc (.cells #[.int .u32 (ad : Int), .slice a3 n3 c3] 41)) = (Builtin.append_ #[33, 33] 0 #[.slice a n cap, .slice (some ⟨w3.heap.size, 0, none⟩) 1 1]).run Try.prog (w3.alloc (.cells #[.int .u32 (ad : Int), .slice a3 n3 c3] 41)) := rfl
          rw [this]; exact hr
        · refine hk5.mem h4.row fun e => ?_
          obtain ⟨cs, h7⟩ := row_kind h4.fl.row e
          rw [h4.row] at h7
          simp at h7
        · refine HH.out.store (by decide) 1 rfl ((Keeps.of hb4).trans hk5) (fun k e => .inl e) hf fun k hk => ?_
          rcases hk with hk | ⟨x, hx, hk⟩
          · exact (hn5 k hk).imp .inl fun e => Nat.le_trans hb4.size e
          · rcases List.mem_append.1 hx with hx | hx
            · exact .inl (.inr ⟨x, hx, hk⟩)
            · simp at hx; subst hx
              exact .inr (hnew k hk)
      clear h hu hb1 r1 hl
      go_enter Try.func32, Try.ntmps32
      go_upto_region 1 with fail
      rw [← HW1.out, ← HB.out]
      go_upto_region 3 with fail
      go_quiet (fail)
      obtain ⟨u0, HU0⟩ : ∃ u0, Hid (u0 = w1.drewN nq) := ⟨_, rfl⟩
      have HB0 : Hid (Below w1.heap.size w1 u0) := by unfold Hid; rw [HU0.out]; exact below_drewN (Below.refl _ _) _
      have HB0d : Hid (Below w1.heap.size w1 u0.drew) := below_drew HB0.out
      rw [← HU0.out]
      have HCL : Hid (∀ u1 : World, Below w1.heap.size w1 u1 → u1.cell? ⟨pb, 1, none⟩ = some (.slice a n cap) ∧ u1.cell? ⟨b, 0, none⟩ = some (.int .u32 (ad : Int)) ∧ u1.cell? ⟨b, 1, none⟩ = some (.slice pa q pc)) := fun u1 h1 => by
        have r1 := below_keeps h1 R1.out (Array.getElem?_eq_some_iff.1 R1.out).1
        refine ⟨(HH1.out.below h1).cellsN.2.1, ?_, ?_⟩ <;> (rw [cell_of_row _ _ _ _ _ _ r1]; rfl)
      obtain ⟨e0, e1, e2⟩ := HCL.out u0 HB0.out
      clear c0 c1 d0 d1 d2
      go_upto_region 5 with fail
      go_region_law (first
        | (go_simp; go_at_call 34; refine (HTW.out u0.drew HB0d.out).mono ?_; rintro _ w3 ⟨a3, n3, c3, rfl, ho3, hb3⟩; obtain ⟨a5, n5, c5, w5, hap, hr5, ht5⟩ := HFIN.out u0.drew w3 a3 n3 c3 HB0d.out ho3 hb3; have HAP := hid hap; have HT5 := hid ht5; obtain ⟨f0, f1, f2⟩ := HCL.out w3 (HB0d.out.trans (hb3.mono HB0d.out.size)); have hp3 : pb < w3.heap.size := Nat.lt_of_lt_of_le (HH1.out.lt (.inl rfl)) (HB0d.out.trans (hb3.mono HB0d.out.size)).size; have g1 : w5.cell? ⟨pb, 1, none⟩ = some (.slice a n cap) := (by rw [cell_of_row _ _ _ _ _ _ hr5]; rfl); have g2 : w5.frozen? ⟨pb, 1, none⟩ = false := frozen_of_row _ _ _ _ _ hr5; clear hap ht5 hr5 ho3 hb3)
        | (refine step_append_run rfl _ _ _ _ rfl _ _ rfl rfl (HAP.out _) ?_)
        | fail)
      all_goals (
        go_wp2_with fail
        go_ret
        refine ⟨by rw [HE.out]; rfl, _, _, HT5.out, HJS.out _ ?_⟩
        rw [if_pos HE.out, List.map_append]
        rfl)
end Go.Proofs.Ytaelfhjhinfikab
