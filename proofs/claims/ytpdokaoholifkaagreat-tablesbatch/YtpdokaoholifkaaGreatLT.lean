/-
  tables, the law: TablesBatch.
-/
import Derived.Test.YtpdokaoholifkaaGreatLS
namespace Go.Proofs.YtpdokaoholifkaaGreat.Rt
open Go.Proofs.YtpdokaoholifkaaGreat Go.ChangeShapes Go.WideShapes Go.ChangeAt Go.RowKit Go.Maps Tri N
set_option maxHeartbeats 8000000
set_option maxRecDepth 100000

theorem batch_walk (r n f : Int) (a : Option Addr) (l cp : Nat) (A : List Opv) (a' : Option Addr) (l' cp' : Nat) (L : List Opv) (w : World) (hs : SeesOp (fun c => c < w.heap.size) w a l A) (hA : ∀ o ∈ A, o.Ok) (hl : l ≤ 9223372036854775807) (hs' : SeesOp (fun c => c < w.heap.size) w a' l' L) (hL : ∀ o ∈ L, o.Ok) (hl' : l' ≤ 9223372036854775807) :
    Calls Tryz.prog 4 #[.agg #[.int .i64 r, .int .i64 n, .int .i64 f], .slice a l cp, .slice a' l' cp'] w fun e w' => e = .returned (.bool true) ∧ Below w.heap.size w w' := by
  obtain ⟨w1, HW1⟩ : ∃ w1, Hid (w1 = w.alloc (.cells #[.int .i64 r, .int .i64 n, .int .i64 f] 23)) := ⟨_, rfl⟩
  have hb1 : Below w.heap.size w w1 := by rw [HW1.out]; exact (Below.refl _ _).alloc (Nat.le_refl _) _
  have r1 : w1.heap[w.heap.size]? = some (.cells #[.int .i64 r, .int .i64 n, .int .i64 f] 23) := by rw [HW1.out]; exact heap_alloc_new w _
  have c0 : w1.cell? ⟨w.heap.size, 0, none⟩ = some (.int .i64 r) := by rw [cell_of_row _ _ _ _ _ _ r1]; rfl
  have c1 : w1.cell? ⟨w.heap.size, 1, none⟩ = some (.int .i64 n) := by rw [cell_of_row _ _ _ _ _ _ r1]; rfl
  have c2 : w1.cell? ⟨w.heap.size, 2, none⟩ = some (.int .i64 f) := by rw [cell_of_row _ _ _ _ _ _ r1]; rfl
  have HB1 := hid hb1
  have HR1 := hid r1
  have HNA := hid hs.1
  have HNL := hid hs'.1
  have HSA : Hid (SeesOp (fun c => c < w1.heap.size) w1 a l A) := (hs.below hb1).more fun c _ hc => Nat.lt_of_lt_of_le hc hb1.size
  have HSL : Hid (SeesOp (fun c => c < w1.heap.size) w1 a' l' L) := (hs'.below hb1).more fun c _ hc => Nat.lt_of_lt_of_le hc hb1.size
  have HA := hid hA
  have HL := hid hL
  have HC := hid (newK_any w1 r n f)
  clear hb1 r1 hs hs' hA hL
  go_enter Tryz.func4, Tryz.ntmps4
  go_upto_region 1 with fail
  rw [← HW1.out]
  clear HW1
  go_wp2_with fail
  refine HC.out.mono ?_
  intro e w2 hp
  by_cases hcap : Cap r n f
  · obtain ⟨b1, rfl, hk1, hb2⟩ := hp.1 hcap
    have r2 := below_keeps hb2 HR1.out (Array.getElem?_eq_some_iff.1 HR1.out).1
    have d0 : w2.cell? ⟨w.heap.size, 0, none⟩ = some (.int .i64 r) := by rw [cell_of_row _ _ _ _ _ _ r2]; rfl
    have d1 : w2.cell? ⟨w.heap.size, 1, none⟩ = some (.int .i64 n) := by rw [cell_of_row _ _ _ _ _ _ r2]; rfl
    have d2 : w2.cell? ⟨w.heap.size, 2, none⟩ = some (.int .i64 f) := by rw [cell_of_row _ _ _ _ _ _ r2]; rfl
    have HK1 := hid hk1
    have HB2 := hid hb2
    have HCC := hid hcap
    have HC2 := hid (newK_any w2 r n f)
    clear hp hk1 hb2 r2 c0 c1 c2 hcap HC
    go_wp2_with fail
    refine HC2.out.mono ?_
    intro e w3 hp
    obtain ⟨b2, rfl, hk2, hb3⟩ := hp.1 HCC.out
    have HKK : Hid (∃ t, K2 w1 w3.heap.size w3 b1.kb b2.kb t t) := ⟨_, KK.new rfl HK1.out HB2.out hk2 hb3, HB2.out.trans (hb3.mono HB2.out.size), Nat.le_refl _⟩
    have HF := hid (first_any w3)
    generalize b1.kb = k1 at HKK ⊢
    generalize b2.kb = k2 at HKK ⊢
    obtain ⟨NN, HNN⟩ : ∃ NN, Hid (NN = w3.heap.size) := ⟨_, rfl⟩
    rw [← HNN.out] at HKK
    clear hp hk2 hb3 d0 d1 d2 HC2 HK1 HB2
    go_wp2_with fail
    refine HF.out.mono ?_
    rintro _ w4 ⟨rfl, hb4⟩
    have HI0 : Hid (∃ t, K2 w1 NN w4 k1 k2 t t) := by
      obtain ⟨t, ht⟩ := HKK.out
      exact ⟨t, ht.below hb4⟩
    clear hb4 HF HKK HNN
    go_upto_region 8 with fail
    go_loopw [11] (fun i wr => ∃ (j : Nat), i = .int .i64 (j : Int) ∧ j ≤ l ∧ Hid (∃ t, K2 w1 NN wr k1 k2 t t)) (fun i _ => l - (intOf i).toNat)
    case atStart => exact ⟨0, rfl, Nat.zero_le _, HI0⟩
    case round =>
    obtain ⟨j, rfl, hj, HI⟩ := hrel
    obtain ⟨t, ht⟩ := HI.out
    have HT := hid ht
    clear ht HI
    by_cases hlt : j < l
    · have hlt' : (j : Int) < (l : Int) := int_lt hlt
      have hj0 : (0 : Int) ≤ (j : Int) := by omega
      obtain ⟨o, HO⟩ : ∃ o, Hid (A[j]? = some o) := ⟨_, hid (List.getElem?_eq_getElem (by have := HNA.out; omega))⟩
      have hok := HA.out o (List.mem_of_getElem? HO.out)
      obtain ⟨g, off, rfl, hld⟩ := (HSA.out.below HT.out.bel).load HO.out
      obtain ⟨v0, v1, v2, v3, v4, v5, v6, v7, v8, v9, v10, v11, v12, v13, v14, v15, v16, v17, v18, HOC⟩ : ∃ v0 v1 v2 v3 v4 v5 v6 v7 v8 v9 v10 v11 v12 v13 v14 v15 v16 v17 v18, Hid (o.cells = #[v0, v1, v2, v3, v4, v5, v6, v7, v8, v9, v10, v11, v12, v13, v14, v15, v16, v17, v18]) := ⟨_, _, _, _, _, _, _, _, _, _, _, _, _, _, _, _, _, _, _, rfl⟩
      rw [HOC.out] at hld
      have HLD := hid hld
      obtain ⟨w5, HW5⟩ : ∃ w5, Hid (w5 = wr.alloc (.cells #[v0, v1, v2, v3, v4, v5, v6, v7, v8, v9, v10, v11, v12, v13, v14, v15, v16, v17, v18] 49)) := ⟨_, rfl⟩
      have HC5 := hid (HT.out.one (w' := w5) (by rw [HW5.out, HOC.out]) hok)
      clear hld
      go_wp2_with (first | (refine wpList_ld 49 ⟨g, off + j * 19, none⟩ (.tmp 68) rfl rfl HLD.out rfl ?_) | fail)
      rw [← HW5.out]
      refine HC5.out.mono ?_
      rintro _ w6 ⟨rfl, hk6⟩
      have HT6 := hid hk6
      obtain ⟨g', off', hgo, hld6⟩ := (HSA.out.below hk6.bel).load HO.out
      simp only [Option.some.injEq, Addr.mk.injEq, and_true] at hgo
      obtain ⟨rfl, rfl⟩ := hgo
      rw [HOC.out] at hld6
      have HLD6 := hid hld6
      obtain ⟨w7, HW7⟩ : ∃ w7, Hid (w7 = w6.alloc (.cells #[v0, v1, v2, v3, v4, v5, v6, v7, v8, v9, v10, v11, v12, v13, v14, v15, v16, v17, v18] 49)) := ⟨_, rfl⟩
      have HC7 := hid (HT6.out.swap.one (w' := w7) (by rw [HW7.out, HOC.out]) hok)
      obtain ⟨q1, hq1⟩ : ∃ q1 : Int, q1 = (((if oneE t o = 0 then 1 else 0 : Nat)) : Int) := ⟨_, rfl⟩
      obtain ⟨q2, hq2⟩ : ∃ q2 : Int, q2 = oneE t o := ⟨_, rfl⟩
      rw [← hq1, ← hq2] at HC7 ⊢
      clear hk6 hld6 HC5 HLD HT hq1 hq2 HW5
      go_wp2_with (first | (refine wpList_ld 49 ⟨g, off + j * 19, none⟩ (.tmp 75) rfl rfl HLD6.out rfl ?_) | fail)
      rw [← HW7.out]
      refine HC7.out.mono ?_
      rintro _ w8 ⟨rfl, hk8⟩
      have HI8 : Hid (∃ t, K2 w1 NN w8 k1 k2 t t) := ⟨_, hk8.swap⟩
      clear hk8 HC7 HT6 HLD6 HW7 HOC hok
      go_wp2_with fail
      go_roundw
      case rel => exact ⟨j + 1, by go_num, hlt, HI8⟩
      case measure => simp [intOf]; omega
    · have hlt' : ¬ (j : Int) < (l : Int) := int_nlt hlt
      have HD := hid (HT.out.do cp' (HSL.out.below HT.out.bel) (fun c hc => .inl hc) HL.out hl')
      obtain ⟨dn, HDN⟩ : ∃ dn, Hid (dn = doN t L) := ⟨_, rfl⟩
      obtain ⟨de, HDE⟩ : ∃ de, Hid (de = doE t L) := ⟨_, rfl⟩
      have HLE : Hid (dn ≤ l') := by unfold Hid; rw [HDN.out, HNL.out]; exact doN_le t L
      have HLT : Hid (dn < l' ↔ de ≠ 0) := by unfold Hid; rw [HDN.out, HDE.out, HNL.out]; exact doN_lt t L
      rw [← HDN.out, ← HDE.out] at HD
      go_wp2_with fail
      refine HD.out.mono ?_
      rintro _ w5 ⟨rfl, hk5⟩
      have HK5 : Hid (K2 w1 NN w5 k1 k2 (doS t L) (doS t (L.take 0))) := hk5
      have hdl : ¬ (dn : Int) > (l' : Int) := by have := HLE.out; omega
      have hdl2 : ¬ (l' : Int) < (dn : Int) := by have := HLE.out; omega
      have hd0 : ¬ (dn : Int) < 0 := by omega
      have hd1 : decide ((dn : Int) < 0) = false := decide_eq_false (by omega)
      have hd2 : decide (l' < dn) = false := decide_eq_false (by have := HLE.out; omega)
      have hd3 : ¬ l' < dn := by have := HLE.out; omega
      clear hk5 HD hlt HT
      by_cases hfull : dn < l'
      · have hf' : (dn : Int) < (l' : Int) := int_lt hfull
        have hde := HLT.out.1 hfull
        have hde' : (de == 0) = false := by simpa using hde
        have hde2 : (de != 0) = true := by simpa using hde
        go_upto_region 16 with fail
        go_loopw [14] (fun i wx => ∃ (j : Nat), i = .int .i64 (j : Int) ∧ j ≤ dn ∧ Hid (K2 w1 NN wx k1 k2 (doS t L) (doS t (L.take j)))) (fun i _ => dn - (intOf i).toNat)
        case atStart => exact ⟨0, rfl, Nat.zero_le _, HK5⟩
        case round =>
        obtain ⟨j2, rfl, hj2, HI⟩ := hrel
        by_cases hlt2 : j2 < dn
        · have hlt2' : (j2 : Int) < (dn : Int) := int_lt hlt2
          have hj20 : (0 : Int) ≤ (j2 : Int) := by omega
          have hj2l : (j2 : Int) < (l' : Int) := by have := HLE.out; omega
          obtain ⟨o, HO⟩ : ∃ o, Hid (L[j2]? = some o) := ⟨_, hid (List.getElem?_eq_getElem (by have := HNL.out; have := HLE.out; omega))⟩
          have hok := HL.out o (List.mem_of_getElem? HO.out)
          obtain ⟨g, off, rfl, hld⟩ := (HSL.out.below HI.out.bel).load HO.out
          obtain ⟨v0, v1, v2, v3, v4, v5, v6, v7, v8, v9, v10, v11, v12, v13, v14, v15, v16, v17, v18, HOC⟩ : ∃ v0 v1 v2 v3 v4 v5 v6 v7 v8 v9 v10 v11 v12 v13 v14 v15 v16 v17 v18, Hid (o.cells = #[v0, v1, v2, v3, v4, v5, v6, v7, v8, v9, v10, v11, v12, v13, v14, v15, v16, v17, v18]) := ⟨_, _, _, _, _, _, _, _, _, _, _, _, _, _, _, _, _, _, _, rfl⟩
          rw [HOC.out] at hld
          have HLD := hid hld
          obtain ⟨w6, HW6⟩ : ∃ w6, Hid (w6 = wr.alloc (.cells #[v0, v1, v2, v3, v4, v5, v6, v7, v8, v9, v10, v11, v12, v13, v14, v15, v16, v17, v18] 49)) := ⟨_, rfl⟩
          obtain ⟨hz1, hz2⟩ := do_at t L (by rw [← HDN.out]; exact hlt2) HO.out
          have HC6 := hid (HI.out.swap.one (w' := w6) (by rw [HW6.out, HOC.out]) hok)
          rw [hz1, ← hz2, if_pos rfl, show ((1 : Nat) : Int) = 1 from rfl] at HC6
          clear hld hz1 hz2
          go_wp2_with (first | (refine wpList_ld 49 ⟨g, off + j2 * 19, none⟩ (.tmp 111) rfl rfl HLD.out rfl ?_) | fail)
          rw [← HW6.out]
          refine HC6.out.mono ?_
          rintro _ w7 ⟨rfl, hk7⟩
          have HI7 : Hid (K2 w1 NN w7 k1 k2 (doS t L) (doS t (L.take (j2 + 1)))) := hk7.swap
          clear hk7 HC6 HLD HW6 HOC hok
          go_wp2_with fail
          go_roundw
          case rel => exact ⟨j2 + 1, by go_num, hlt2, HI7⟩
          case measure => simp [intOf]; omega
        · have hlt2' : ¬ (j2 : Int) < (dn : Int) := int_nlt hlt2
          obtain rfl : j2 = dn := by omega
          obtain ⟨o, HO⟩ : ∃ o, Hid (L[j2]? = some o) := ⟨_, hid (List.getElem?_eq_getElem (by have := HNL.out; omega))⟩
          have hok := HL.out o (List.mem_of_getElem? HO.out)
          have hj20 : (0 : Int) ≤ (j2 : Int) := by omega
          obtain ⟨g, off, rfl, hld⟩ := (HSL.out.below HI.out.bel).load HO.out
          obtain ⟨v0, v1, v2, v3, v4, v5, v6, v7, v8, v9, v10, v11, v12, v13, v14, v15, v16, v17, v18, HOC⟩ : ∃ v0 v1 v2 v3 v4 v5 v6 v7 v8 v9 v10 v11 v12 v13 v14 v15 v16 v17 v18, Hid (o.cells = #[v0, v1, v2, v3, v4, v5, v6, v7, v8, v9, v10, v11, v12, v13, v14, v15, v16, v17, v18]) := ⟨_, _, _, _, _, _, _, _, _, _, _, _, _, _, _, _, _, _, _, rfl⟩
          rw [HOC.out] at hld
          have HLD := hid hld
          obtain ⟨w6, HW6⟩ : ∃ w6, Hid (w6 = wr.alloc (.cells #[v0, v1, v2, v3, v4, v5, v6, v7, v8, v9, v10, v11, v12, v13, v14, v15, v16, v17, v18] 49)) := ⟨_, rfl⟩
          obtain ⟨hz1, hz3⟩ := do_stop t L (o := o) (by rw [← HDN.out]; exact HO.out)
          have hz2 : oneS (doS t (L.take (doN t L))) o = doS t L := by unfold oneS; rw [if_pos (by rw [hz1]; exact hz3)]; exact do_take t L
          have hi := HI.out.swap
          rw [HDN.out] at hi
          have HC6 := hid (hi.one (w' := w6) (by rw [HW6.out, HOC.out]) hok)
          rw [hz1, hz2, if_neg hz3, ← HDE.out, show ((0 : Nat) : Int) = 0 from rfl] at HC6
          clear hld hz1 hz2 hz3 hi
          go_wp2_with (first | (refine wpList_ld 49 ⟨g, off + j2 * 19, none⟩ (.tmp 131) rfl rfl HLD.out rfl ?_) | fail)
          rw [← HW6.out]
          refine HC6.out.mono ?_
          rintro _ w7 ⟨rfl, hk7⟩
          have HI7 : Hid (K2 w1 NN w7 k1 k2 (doS t L) (doS t L)) := hk7.swap
          clear hk7 HC6 HLD HW6 HOC hok HI
          have HDA := hid HI7.out.kk.dump
          go_wp2_with fail
          refine HDA.out.mono ?_
          rintro _ w8 ⟨v1, rfl, hd1⟩
          have hk8 := HI7.out.below hd1.bel
          have HK8 := hid hk8
          have HD1 := hid hd1
          have HDB := hid hk8.swap.kk.dump
          clear hd1 hk8 HDA
          go_wp2_with fail
          refine HDB.out.mono ?_
          rintro _ w9 ⟨v2, rfl, hd2⟩
          have HK9 := hid (HK8.out.below hd2.bel)
          have HDC := hid (dumps_two HI7.out.kk.ok HD1.out hd2)
          clear hd2 HDB HD1 HK8 HI7
          go_wp2_with fail
          refine HDC.out.mono ?_
          rintro _ w10 ⟨rfl, hb10⟩
          have HFIN : Hid (Below w.heap.size w w10) := HB1.out.trans ((HK9.out.below hb10).bel.mono HB1.out.size)
          clear hb10 HDC
          go_wp2_with fail
          go_ret
          exact ⟨rfl, HFIN.out⟩
      · have hf' : ¬ (dn : Int) < (l' : Int) := int_nlt hfull
        obtain rfl : de = 0 := by
          by_cases h : de = 0
          · exact h
          · exact absurd (HLT.out.2 h) hfull
        go_upto_region 16 with fail
        go_loopw [14] (fun i wx => ∃ (j : Nat), i = .int .i64 (j : Int) ∧ j ≤ dn ∧ Hid (K2 w1 NN wx k1 k2 (doS t L) (doS t (L.take j)))) (fun i _ => dn - (intOf i).toNat)
        case atStart => exact ⟨0, rfl, Nat.zero_le _, HK5⟩
        case round =>
        obtain ⟨j2, rfl, hj2, HI⟩ := hrel
        by_cases hlt2 : j2 < dn
        · have hlt2' : (j2 : Int) < (dn : Int) := int_lt hlt2
          have hj20 : (0 : Int) ≤ (j2 : Int) := by omega
          have hj2l : (j2 : Int) < (l' : Int) := by have := HLE.out; omega
          obtain ⟨o, HO⟩ : ∃ o, Hid (L[j2]? = some o) := ⟨_, hid (List.getElem?_eq_getElem (by have := HNL.out; have := HLE.out; omega))⟩
          have hok := HL.out o (List.mem_of_getElem? HO.out)
          obtain ⟨g, off, rfl, hld⟩ := (HSL.out.below HI.out.bel).load HO.out
          obtain ⟨v0, v1, v2, v3, v4, v5, v6, v7, v8, v9, v10, v11, v12, v13, v14, v15, v16, v17, v18, HOC⟩ : ∃ v0 v1 v2 v3 v4 v5 v6 v7 v8 v9 v10 v11 v12 v13 v14 v15 v16 v17 v18, Hid (o.cells = #[v0, v1, v2, v3, v4, v5, v6, v7, v8, v9, v10, v11, v12, v13, v14, v15, v16, v17, v18]) := ⟨_, _, _, _, _, _, _, _, _, _, _, _, _, _, _, _, _, _, _, rfl⟩
          rw [HOC.out] at hld
          have HLD := hid hld
          obtain ⟨w6, HW6⟩ : ∃ w6, Hid (w6 = wr.alloc (.cells #[v0, v1, v2, v3, v4, v5, v6, v7, v8, v9, v10, v11, v12, v13, v14, v15, v16, v17, v18] 49)) := ⟨_, rfl⟩
          obtain ⟨hz1, hz2⟩ := do_at t L (by rw [← HDN.out]; exact hlt2) HO.out
          have HC6 := hid (HI.out.swap.one (w' := w6) (by rw [HW6.out, HOC.out]) hok)
          rw [hz1, ← hz2, if_pos rfl, show ((1 : Nat) : Int) = 1 from rfl] at HC6
          clear hld hz1 hz2
          go_wp2_with (first | (refine wpList_ld 49 ⟨g, off + j2 * 19, none⟩ (.tmp 111) rfl rfl HLD.out rfl ?_) | fail)
          rw [← HW6.out]
          refine HC6.out.mono ?_
          rintro _ w7 ⟨rfl, hk7⟩
          have HI7 : Hid (K2 w1 NN w7 k1 k2 (doS t L) (doS t (L.take (j2 + 1)))) := hk7.swap
          clear hk7 HC6 HLD HW6 HOC hok
          go_wp2_with fail
          go_roundw
          case rel => exact ⟨j2 + 1, by go_num, hlt2, HI7⟩
          case measure => simp [intOf]; omega
        · have hlt2' : ¬ (j2 : Int) < (dn : Int) := int_nlt hlt2
          obtain rfl : j2 = dn := by omega
          have HI7 : Hid (K2 w1 NN wr k1 k2 (doS t L) (doS t L)) := by
            have h := HI.out
            rw [HDN.out, do_take] at h
            exact h
          have w7 := wr
          clear HI w7
          have HDA := hid HI7.out.kk.dump
          go_wp2_with fail
          refine HDA.out.mono ?_
          rintro _ w8 ⟨v1, rfl, hd1⟩
          have hk8 := HI7.out.below hd1.bel
          have HK8 := hid hk8
          have HD1 := hid hd1
          have HDB := hid hk8.swap.kk.dump
          clear hd1 hk8 HDA
          go_wp2_with fail
          refine HDB.out.mono ?_
          rintro _ w9 ⟨v2, rfl, hd2⟩
          have HK9 := hid (HK8.out.below hd2.bel)
          have HDC := hid (dumps_two HI7.out.kk.ok HD1.out hd2)
          clear hd2 HDB HD1 HK8 HI7
          go_wp2_with fail
          refine HDC.out.mono ?_
          rintro _ w10 ⟨rfl, hb10⟩
          have HFIN : Hid (Below w.heap.size w w10) := HB1.out.trans ((HK9.out.below hb10).bel.mono HB1.out.size)
          clear hb10 HDC
          go_wp2_with fail
          go_ret
          exact ⟨rfl, HFIN.out⟩
  · obtain ⟨rfl, ew⟩ := hp.2 hcap
    obtain rfl := ew.symm
    have HCC := hid hcap
    have HC2 := hid (newK_any w1 r n f)
    clear hp ew hcap HC
    go_wp2_with fail
    refine HC2.out.mono ?_
    intro e w3 hp
    obtain ⟨rfl, ew⟩ := hp.2 HCC.out
    obtain rfl := ew.symm
    have HF := hid (first_any w1)
    clear hp ew HC2 c0 c1 c2
    go_wp2_with fail
    refine HF.out.mono ?_
    rintro _ w4 ⟨rfl, hb4⟩
    have HFIN : Hid (Below w.heap.size w w4) := HB1.out.trans (hb4.mono HB1.out.size)
    clear hb4 HF
    go_wp2_with fail
    go_ret
    exact ⟨rfl, HFIN.out⟩
end Go.Proofs.YtpdokaoholifkaaGreat.Rt
