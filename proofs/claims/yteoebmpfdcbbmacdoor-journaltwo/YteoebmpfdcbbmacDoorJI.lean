/-
  readArea.
-/
import Derived.Test.YteoebmpfdcbbmacDoorJH
namespace Go.Proofs.YteoebmpfdcbbmacDoor
open Go.ChangeShapes Go.WideShapes Go.ChangeAt Go.RowKit Jn
set_option maxHeartbeats 4000000
set_option maxRecDepth 100000

theorem OwnS.mono {w : World} {b b' : Nat} {v : Value} {Vs : List Value} (h : OwnS w b v Vs) (hb : b' ≤ b) : OwnS w b' v Vs := by
  refine ⟨h.1, ?_⟩
  rcases h.2 with hn | ⟨g, cap, cur, rfl, hbb, rest⟩
  · exact .inl hn
  · exact .inr ⟨g, cap, cur, rfl, Nat.le_trans hb hbb, rest⟩

theorem readArea_any (v : Value) (b : List Nat) (w0 w : World) (hv0 : SeesB w0 v b) (hb0 : Below w0.heap.size w0 w) (ht : TabN w) :
    Calls Tryd.prog 35 #[v] w fun e w' => ∃ vr, e = .returned (ctV (rdA b).st (rdA b).gen vr (rdA b).fin) ∧ RecsAt w0 w.heap.size w' vr (rdA b).recs ∧ Below w.heap.size w w' := by
  have hv := hv0.below hb0
  have HV0 := hid hv0
  have HB0 := hid hb0
  obtain ⟨C, HC⟩ : ∃ C, Hid (C = rdA b) := ⟨_, rfl⟩
  rw [← HC.out]
  obtain ⟨ao, n, cap, rfl, HN, hn1, hn2⟩ := hv0.shape
  unfold maxLen at hn2
  have HV := hid hv
  have HT := hid ht
  have hz := ht.2
  obtain ⟨w1, HW1⟩ : ∃ w1, Hid (w1 = w.alloc (.cells #[.int .i64 0, .int .u32 0, .slice none 0 0, .int .i64 0] 69)) := ⟨_, rfl⟩
  have hb1 : Below w.heap.size w w1 := by rw [HW1.out]; exact (Below.refl _ _).alloc (Nat.le_refl _) _
  have hs1 : w1.heap.size = w.heap.size + 1 := by rw [HW1.out]; simp
  have r1 : w1.heap[w.heap.size]? = some (ctRow 0 0 (.slice none 0 0) 0) := by rw [HW1.out]; exact heap_alloc_new w _
  obtain ⟨e0, e1, e2, e3, ef⟩ := ct_cells r1
  have HB1 := hid hb1
  have R1 := hid r1
  clear hv hv0 hb0 ht hb1 r1
  by_cases h16 : n < 16
  · have HE : Hid (C = ⟨0, 0, [], 0⟩) := by unfold Hid; rw [HC.out, rdA, if_pos (by have := HN.out; omega)]
    go_enter Tryd.func35, Tryd.ntmps35
    go_upto_region 1 with fail
    rw [← HW1.out]
    go_wp2_with fail
    obtain ⟨hU, hkU⟩ := ct_put (C := #[.int .i64 ((0 : Nat) : Int), .int .u32 ((0 : Nat) : Int), .slice none 0 0, .int .i64 ((0 : Nat) : Int)]) rfl R1.out (.int .i64 0) (.int .u32 0) (.slice none 0 0) (.int .i64 0)
    generalize ((((w1.setCell ⟨w.heap.size, 0, none⟩ (.int .i64 0)).setCell ⟨w.heap.size, 1, none⟩ (.int .u32 0)).setCell ⟨w.heap.size, 2, none⟩ (.slice none 0 0)).setCell ⟨w.heap.size, 3, none⟩ (.int .i64 0)) = U at *
    have z0 : U.cell? ⟨w.heap.size, 0, none⟩ = some (.int .i64 0) := by rw [cell_of_row _ _ _ _ _ _ hU]; rfl
    have z1 : U.cell? ⟨w.heap.size, 1, none⟩ = some (.int .u32 0) := by rw [cell_of_row _ _ _ _ _ _ hU]; rfl
    have z2 : U.cell? ⟨w.heap.size, 2, none⟩ = some (.slice none 0 0) := by rw [cell_of_row _ _ _ _ _ _ hU]; rfl
    have z3 : U.cell? ⟨w.heap.size, 3, none⟩ = some (.int .i64 0) := by rw [cell_of_row _ _ _ _ _ _ hU]; rfl
    refine bodyPost_ret (v := .agg #[.int .i64 0, .int .u32 0, .slice none 0 0, .int .i64 0]) (by simp [results, Tryd.results35, go_sem, z0, z1, z2, z3]) rfl ⟨.slice none 0 0, ?_, ?_, ?_⟩
    · rw [HE.out]; rfl
    · rw [HE.out]; exact RecsAt.nil _ _ _
    · exact hkU.below HB1.out (HB1.out).size (fun k hk e => by unfold At1 at e; omega)
  · by_cases hbig : 1048576 < n
    · have HE : Hid (C = ⟨1, 0, [], 0⟩) := by unfold Hid; rw [HC.out, rdA, if_neg (by have := HN.out; omega), if_pos (.inl (by have := HN.out; omega))]
      go_enter Tryd.func35, Tryd.ntmps35
      go_upto_region 1 with fail
      rw [← HW1.out]
      go_wp2_with fail
      obtain ⟨hU, hkU⟩ := ct_put (C := #[.int .i64 ((0 : Nat) : Int), .int .u32 ((0 : Nat) : Int), .slice none 0 0, .int .i64 ((0 : Nat) : Int)]) rfl R1.out (.int .i64 1) (.int .u32 0) (.slice none 0 0) (.int .i64 0)
      generalize ((((w1.setCell ⟨w.heap.size, 0, none⟩ (.int .i64 1)).setCell ⟨w.heap.size, 1, none⟩ (.int .u32 0)).setCell ⟨w.heap.size, 2, none⟩ (.slice none 0 0)).setCell ⟨w.heap.size, 3, none⟩ (.int .i64 0)) = U at *
      have z0 : U.cell? ⟨w.heap.size, 0, none⟩ = some (.int .i64 1) := by rw [cell_of_row _ _ _ _ _ _ hU]; rfl
      have z1 : U.cell? ⟨w.heap.size, 1, none⟩ = some (.int .u32 0) := by rw [cell_of_row _ _ _ _ _ _ hU]; rfl
      have z2 : U.cell? ⟨w.heap.size, 2, none⟩ = some (.slice none 0 0) := by rw [cell_of_row _ _ _ _ _ _ hU]; rfl
      have z3 : U.cell? ⟨w.heap.size, 3, none⟩ = some (.int .i64 0) := by rw [cell_of_row _ _ _ _ _ _ hU]; rfl
      refine bodyPost_ret (v := .agg #[.int .i64 1, .int .u32 0, .slice none 0 0, .int .i64 0]) (by simp [results, Tryd.results35, go_sem, z0, z1, z2, z3]) rfl ⟨.slice none 0 0, ?_, ?_, ?_⟩
      · rw [HE.out]; rfl
      · rw [HE.out]; exact RecsAt.nil _ _ _
      · exact hkU.below HB1.out (HB1.out).size (fun k hk e => by unfold At1 at e; omega)
    · have HHF := hid (headFits_any _ b w1 (HV.out.below HB1.out) (by have := HN.out; omega) (by have := HN.out; omega) (HT.out.below HB1.out hz))
      cases hh : headOk b with
      | false =>
        rw [hh] at HHF
        have HE : Hid (C = ⟨1, 0, [], 0⟩) := by unfold Hid; rw [HC.out, rdA, if_neg (by have := HN.out; omega), if_pos (.inr hh)]
        clear hh
        go_enter Tryd.func35, Tryd.ntmps35
        go_upto_region 1 with fail
        rw [← HW1.out]
        clear e0 e1 e2 e3 ef
        go_wp2_with fail
        refine HHF.out.mono ?_
        rintro _ w2 ⟨rfl, hb2⟩
        have R2 := hid (below_keeps hb2 R1.out (by omega))
        obtain ⟨e0, e1, e2, e3, ef⟩ := ct_cells R2.out
        have HB2 : Hid (Below w.heap.size w w2) := HB1.out.trans (hb2.mono HB1.out.size)
        clear hb2
        go_wp2_with fail
        obtain ⟨hU, hkU⟩ := ct_put (C := #[.int .i64 ((0 : Nat) : Int), .int .u32 ((0 : Nat) : Int), .slice none 0 0, .int .i64 ((0 : Nat) : Int)]) rfl R2.out (.int .i64 1) (.int .u32 0) (.slice none 0 0) (.int .i64 0)
        generalize ((((w2.setCell ⟨w.heap.size, 0, none⟩ (.int .i64 1)).setCell ⟨w.heap.size, 1, none⟩ (.int .u32 0)).setCell ⟨w.heap.size, 2, none⟩ (.slice none 0 0)).setCell ⟨w.heap.size, 3, none⟩ (.int .i64 0)) = U at *
        have z0 : U.cell? ⟨w.heap.size, 0, none⟩ = some (.int .i64 1) := by rw [cell_of_row _ _ _ _ _ _ hU]; rfl
        have z1 : U.cell? ⟨w.heap.size, 1, none⟩ = some (.int .u32 0) := by rw [cell_of_row _ _ _ _ _ _ hU]; rfl
        have z2 : U.cell? ⟨w.heap.size, 2, none⟩ = some (.slice none 0 0) := by rw [cell_of_row _ _ _ _ _ _ hU]; rfl
        have z3 : U.cell? ⟨w.heap.size, 3, none⟩ = some (.int .i64 0) := by rw [cell_of_row _ _ _ _ _ _ hU]; rfl
        refine bodyPost_ret (v := .agg #[.int .i64 1, .int .u32 0, .slice none 0 0, .int .i64 0]) (by simp [results, Tryd.results35, go_sem, z0, z1, z2, z3]) rfl ⟨.slice none 0 0, ?_, ?_, ?_⟩
        · rw [HE.out]; rfl
        · rw [HE.out]; exact RecsAt.nil _ _ _
        · exact hkU.below HB2.out (HB2.out).size (fun k hk e => by unfold At1 at e; omega)
      | true =>
        rw [hh] at HHF
        have hk8 : num b 8 ≤ 1048560 := by unfold headOk at hh; simp at hh; exact hh.2
        have HW8 : Hid (∀ u, Below w.heap.size w u → Calls Tryd.prog 60 #[.slice ao n cap, .int .i64 8] u fun e w' => e = .returned (.int .u32 ((num b 8 : Nat) : Int)) ∧ Below u.heap.size u w') := fun u hu => word_any _ b 8 u (HV.out.below hu) (by have := HN.out; omega)
        have HRF : Hid (∀ u, Below w.heap.size w u → Calls Tryd.prog 61 #[.slice ao n cap, .int .i64 ((16 + num b 8 : Nat) : Int)] u fun e w' => ∃ vr, e = .returned (ctV (rd (num b 4) (16 + num b 8) (b.drop 16) [] 16 (16 == 16 + num b 8)).st (rd (num b 4) (16 + num b 8) (b.drop 16) [] 16 (16 == 16 + num b 8)).gen vr (rd (num b 4) (16 + num b 8) (b.drop 16) [] 16 (16 == 16 + num b 8)).fin) ∧ RecsAt w0 u.heap.size w' vr (rd (num b 4) (16 + num b 8) (b.drop 16) [] 16 (16 == 16 + num b 8)).recs ∧ Below u.heap.size u w') := fun u hu => readFrames_any _ b _ w0 u HV0.out (HB0.out.trans (hu.mono HB0.out.size)) (by have := HN.out; omega) (by have := HN.out; omega) (by omega) (HT.out.below hu hz)
        have HC2 : Hid (C = if n < 16 + num b 8 then ⟨2, 0, [], 0⟩ else rd (num b 4) (16 + num b 8) (b.drop 16) [] 16 (16 == 16 + num b 8)) := by
          unfold Hid
          rw [HC.out, rdA, if_neg (by have := HN.out; omega), if_neg (by intro h; rcases h with h | h; have := HN.out; omega; rw [hh] at h; cases h), ← HN.out]
        generalize rd (num b 4) (16 + num b 8) (b.drop 16) [] 16 (16 == 16 + num b 8) = D at *
        generalize num b 8 = k8 at *
        clear hh HC
        go_enter Tryd.func35, Tryd.ntmps35
        go_upto_region 1 with fail
        rw [← HW1.out]
        clear e0 e1 e2 e3 ef
        go_wp2_with fail
        refine HHF.out.mono ?_
        rintro _ w2 ⟨rfl, hb2⟩
        have R2 := hid (below_keeps hb2 R1.out (by omega))
        have HB2 : Hid (Below w.heap.size w w2) := HB1.out.trans (hb2.mono HB1.out.size)
        have hs2 := hb2.size
        clear hb2
        go_wp2_with fail
        refine (HW8.out _ HB2.out).mono ?_
        rintro _ w3 ⟨rfl, hb3⟩
        have R3 := hid (below_keeps hb3 R2.out (by omega))
        have HB3 : Hid (Below w.heap.size w w3) := HB2.out.trans (hb3.mono HB2.out.size)
        have hs3 := hb3.size
        clear hb3
        have e16 : ((16 + k8 : Nat) : Int) = 16 + (k8 : Int) := by omega
        rw [e16] at HRF
        clear e16
        by_cases htorn : n < 16 + k8
        · have HE : Hid (C = ⟨2, 0, [], 0⟩) := by unfold Hid; rw [HC2.out, if_pos htorn]
          obtain ⟨e0, e1, e2, e3, ef⟩ := ct_cells R3.out
          have q1 : (n : Int) < 16 + (k8 : Int) := by omega
          go_wp2_with fail
          obtain ⟨hU, hkU⟩ := ct_put (C := #[.int .i64 ((0 : Nat) : Int), .int .u32 ((0 : Nat) : Int), .slice none 0 0, .int .i64 ((0 : Nat) : Int)]) rfl R3.out (.int .i64 2) (.int .u32 0) (.slice none 0 0) (.int .i64 0)
          generalize ((((w3.setCell ⟨w.heap.size, 0, none⟩ (.int .i64 2)).setCell ⟨w.heap.size, 1, none⟩ (.int .u32 0)).setCell ⟨w.heap.size, 2, none⟩ (.slice none 0 0)).setCell ⟨w.heap.size, 3, none⟩ (.int .i64 0)) = U at *
          have z0 : U.cell? ⟨w.heap.size, 0, none⟩ = some (.int .i64 2) := by rw [cell_of_row _ _ _ _ _ _ hU]; rfl
          have z1 : U.cell? ⟨w.heap.size, 1, none⟩ = some (.int .u32 0) := by rw [cell_of_row _ _ _ _ _ _ hU]; rfl
          have z2 : U.cell? ⟨w.heap.size, 2, none⟩ = some (.slice none 0 0) := by rw [cell_of_row _ _ _ _ _ _ hU]; rfl
          have z3 : U.cell? ⟨w.heap.size, 3, none⟩ = some (.int .i64 0) := by rw [cell_of_row _ _ _ _ _ _ hU]; rfl
          refine bodyPost_ret (v := .agg #[.int .i64 2, .int .u32 0, .slice none 0 0, .int .i64 0]) (by simp [results, Tryd.results35, go_sem, z0, z1, z2, z3]) rfl ⟨.slice none 0 0, ?_, ?_, ?_⟩
          · rw [HE.out]; rfl
          · rw [HE.out]; exact RecsAt.nil _ _ _
          · exact hkU.below HB3.out (HB3.out).size (fun k hk e => by unfold At1 at e; omega)
        · have HE : Hid (C = D) := by unfold Hid; rw [HC2.out, if_neg htorn]
          have q1 : ¬ (n : Int) < 16 + (k8 : Int) := by omega
          go_wp2_with fail
          refine (HRF.out _ HB3.out).mono ?_
          rintro _ w4 ⟨vr, rfl, hsv, hb4⟩
          have R4 := hid (below_keeps hb4 R3.out (by omega))
          have HB4 : Hid (Below w.heap.size w w4) := HB3.out.trans (hb4.mono HB3.out.size)
          obtain ⟨e0, e1, e2, e3, ef⟩ := ct_cells R4.out
          have HSV := hid hsv
          obtain ⟨ar, nr, cr, rfl, -⟩ := hsv.shape
          clear hb4 hsv
          unfold ctV
          go_wp2_with fail
          obtain ⟨hU, hkU⟩ := ct_put (C := #[.int .i64 ((0 : Nat) : Int), .int .u32 ((0 : Nat) : Int), .slice none 0 0, .int .i64 ((0 : Nat) : Int)]) rfl R4.out (.int .i64 (D.st : Int)) (.int .u32 (D.gen : Int)) (.slice ar nr cr) (.int .i64 (D.fin : Int))
          generalize ((((w4.setCell ⟨w.heap.size, 0, none⟩ (.int .i64 (D.st : Int))).setCell ⟨w.heap.size, 1, none⟩ (.int .u32 (D.gen : Int))).setCell ⟨w.heap.size, 2, none⟩ (.slice ar nr cr)).setCell ⟨w.heap.size, 3, none⟩ (.int .i64 (D.fin : Int))) = U at *
          have z0 : U.cell? ⟨w.heap.size, 0, none⟩ = some (.int .i64 (D.st : Int)) := by rw [cell_of_row _ _ _ _ _ _ hU]; rfl
          have z1 : U.cell? ⟨w.heap.size, 1, none⟩ = some (.int .u32 (D.gen : Int)) := by rw [cell_of_row _ _ _ _ _ _ hU]; rfl
          have z2 : U.cell? ⟨w.heap.size, 2, none⟩ = some (.slice ar nr cr) := by rw [cell_of_row _ _ _ _ _ _ hU]; rfl
          have z3 : U.cell? ⟨w.heap.size, 3, none⟩ = some (.int .i64 (D.fin : Int)) := by rw [cell_of_row _ _ _ _ _ _ hU]; rfl
          refine bodyPost_ret (v := .agg #[.int .i64 (D.st : Int), .int .u32 (D.gen : Int), .slice ar nr cr, .int .i64 (D.fin : Int)]) (by simp [results, Tryd.results35, go_sem, z0, z1, z2, z3]) rfl ⟨.slice ar nr cr, ?_, ?_, ?_⟩
          · rw [HE.out]; rfl
          · rw [HE.out]
            obtain ⟨Vs, o1, o2, o3⟩ := HSV.out.keeps hkU (fun k e => by unfold At1 at e; omega)
            exact ⟨Vs, o1.mono (by omega), o2, o3⟩
          · exact hkU.below HB4.out HB4.out.size (fun k hk e => by unfold At1 at e; omega)
end Go.Proofs.YteoebmpfdcbbmacDoor
