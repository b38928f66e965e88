/-
  weftlaw6.back: what Parse reads, Build makes again.
-/
import Derived.Test.YtcboenmmkaochaaLA
namespace Go.Proofs.Ytcboenmmkaochaa.N
open Go.ChangeShapes Go.WideShapes Go.ChangeAt Go.RowKit
set_option maxHeartbeats 8000000
set_option maxRecDepth 100000

theorem pr_none' {L : List Nat} (h : Im.prE L ≠ 0) : Im.prC L = Im.none0 := by unfold Im.prC; rw [if_neg h]

theorem read_made (L : List Nat) (hb : ∀ x ∈ L, x < 256) (he : Im.prE L = 0) :
    (Im.laid (Im.prC L)).length = L.length ∧ 8 ≤ L.length ∧ L.length ≤ 65515 ∧ (Im.prC L).B.length ≤ 65507 ∧ (∀ i, i ≠ 2 → i ≠ 3 → byt L i = byt (Im.laid (Im.prC L)) i) ∧
    ((byt L 2 = byt (Im.laid (Im.prC L)) 2 ∧ byt L 3 = byt (Im.laid (Im.prC L)) 3) ∨ (byt L 2 = 255 ∧ byt L 3 = 255 ∧ byt (Im.laid (Im.prC L)) 2 = 0 ∧ byt (Im.laid (Im.prC L)) 3 = 0)) := by
  have h8 : 8 ≤ L.length ∧ L.length ≤ 65515 := by
    unfold Im.prE at he
    split at he
    · cases he
    · split at he
      · cases he
      · omega
  obtain ⟨e, hs⟩ := Im.msg_read hb he
  have hsum := Im.sum_read hb he
  have hB : (Im.prC L).B = L.drop 8 := by unfold Im.prC; rw [if_pos he]
  have h2 := Im.at0_lt hb 2
  have h3 := Im.at0_lt hb 3
  have hlt := M.csum_lt (Im.msg (Im.prC L) 0)
  refine ⟨by rw [Im.laid_len, hB, List.length_drop]; omega, h8.1, h8.2, Im.prC_len L, fun i n2 n3 => ?_, ?_⟩
  · generalize Im.prC L = c at *
    generalize Im.at0 L 2 * 256 + Im.at0 L 3 = s at *
    rw [e]
    unfold Im.laid
    match i, n2, n3 with
    | 0, _, _ => rfl
    | 1, _, _ => rfl
    | n + 4, _, _ => rfl
  · have y2 : byt (Im.laid (Im.prC L)) 2 = M.csum (Im.msg (Im.prC L) 0) / 256 := rfl
    have y3 : byt (Im.laid (Im.prC L)) 3 = M.csum (Im.msg (Im.prC L) 0) % 256 := rfl
    have x2 : byt L 2 = Im.at0 L 2 := rfl
    have x3 : byt L 3 = Im.at0 L 3 := rfl
    rw [y2, y3, x2, x3]
    generalize M.csum (Im.msg (Im.prC L) 0) = s at *
    rcases hsum with h | ⟨h, h0⟩
    · left; omega
    · right; omega

theorem back_any (v : Value) (L : List Nat) (w : World) (hv : SeesB w v L) :
    Calls Try.prog 7 #[v] w fun e w' => e = .returned (.bool true) ∧ Below w.heap.size w w' := by
  obtain ⟨ao, n, cap, rfl, HN, hn1, hn2⟩ := hv.shape
  unfold maxLen at hn2
  have HPR := hid (iparse_any _ L w hv)
  have HBY := hid hv.bytes
  have HV := hid hv
  clear hv
  go_enter Try.func7, Try.ntmps7
  go_wp2_with fail
  refine HPR.out.mono ?_
  rintro _ w1 ⟨a1, n1, c1, rfl, hs1, _, hb1⟩
  obtain ⟨pa, hpa⟩ : ∃ pa : Array Value, pa = ctCells (Im.prC L) (.slice a1 n1 c1) := ⟨_, rfl⟩
  obtain ⟨w2, hw2⟩ : ∃ w2, w2 = (w1.alloc (.cells zeroC 25)).setCells w1.heap.size 0 pa.toList := ⟨_, rfl⟩
  have HZA : Hid ((Try.prog.info? 25).map (·.size) = some pa.size) := by unfold Hid; rw [hpa]; exact size_ct
  have HOA : Hid (pa.all (·.oneCell') = true) := by unfold Hid; rw [hpa]; simp [ctCells, Value.oneCell']
  have HTA : Hid ((w1.alloc (.cells zeroC 25)).there w1.heap.size 0 pa.size) := by unfold Hid; rw [hpa]; exact there_blk (C := zeroC) (t := 25) (heap_alloc_new w1 _) rfl
  have r2 : w2.heap[w1.heap.size]? = some (.cells pa 25 (0, 0)) := by
    rw [hw2]
    have := heap_setCells_row (b := w1.heap.size) (T := 25) pa.toList 0 _ zeroC (heap_alloc_new w1 (.cells zeroC 25))
    rwa [show wr zeroC 0 pa.toList = pa by rw [hpa]; simp [wr, zeroC, ctCells]] at this
  have hb12 : Below w1.heap.size w1 w2 := by rw [hw2]; exact below_setCells (Nat.le_refl _) _ _ _ ((Below.refl _ _).alloc (Nat.le_refl _) _)
  have hb02 := hb1.trans (hb12.mono hb1.size)
  have HL2 := hid (row_load Try.underlying25 r2 HZA.out)
  have HS2 := hid (hs1.below hb12)
  have HPA := hid hpa
  have HW2 : Hid (w2 = (w1.alloc (.cells #[.int .u8 0, .int .u8 0, .int .u32 0, .slice none 0 0] 25)).setCells w1.heap.size 0 pa.toList) := hw2
  have HB02 := hid hb02
  rw [← hpa]
  clear hpa hw2 r2 hb1 hb12 hb02 hs1 HPR
  go_upto_region 2 with (first
    | (refine wpList_store_mid rfl 25 (.tmp 3) (.tmp 13) rfl w1.heap.size 0 pa rfl rfl HTA.out HZA.out HOA.out ?_)
    | fail)
  rw [← HW2.out]
  clear HTA HZA HOA HW2
  by_cases he : Im.prE L = 0
  · obtain ⟨f1, f2, f3, f4, f5, f6⟩ := read_made L HBY.out he
    have HBL := hid (ibuild_any (Im.prC L) (.slice a1 n1 c1) w2 (Im.prC_ok HBY.out) HS2.out)
    rw [← HPA.out] at HBL
    have e0 : Im.bdE (Im.prC L) = 0 := by unfold Im.bdE; rw [if_neg (by omega)]
    have eL : Im.bdL (Im.prC L) = Im.laid (Im.prC L) := by unfold Im.bdL; rw [if_neg (by omega)]
    rw [e0, eL] at HBL
    rw [he]
    generalize Im.laid (Im.prC L) = D at *
    clear he e0 eL HPA f4
    go_upto_region 4 with fail
    go_wp2_with (first | (refine wpList_ld 25 ⟨w1.heap.size, 0, none⟩ (.tmp 3) rfl rfl HL2.out rfl ?_) | fail)
    refine HBL.out.mono ?_
    rintro _ w3 ⟨a3, n3, c3, rfl, hs3, hg3, hb3⟩
    obtain ⟨g, rfl, rfl, _, _⟩ := hg3 trivial
    have hn3 : c3 = n := by
      obtain ⟨_, _, hv, _⟩ := hs3
      simp at hv
      rw [hv.2.1, f1, ← HN.out]
    subst hn3
    have HS3 := hid hs3
    have hb03 := HB02.out.trans (hb3.mono HB02.out.size)
    have HB03 := hid hb03
    have HV3 := hid (HV.out.below hb03)
    have hn8 : 8 ≤ c3 := by rw [HN.out]; exact f2
    have hn65 : c3 ≤ 65515 := by rw [HN.out]; exact f3
    have F5 := hid f5
    have F6 := hid f6
    have HBD := hid hs3.bytes
    clear hs3 hg3 hb3 hb03 f1 f2 f3 f5 f6 HBL HL2 HS2
    go_wp2_with fail
    go_loopw [7] (fun i wv => ∃ (k : Nat) (wr : World), i = .int .i64 (k : Int) ∧ k ≤ c3 ∧ wr = wv ∧ Below w3.heap.size w3 wr) (fun i _ => c3 - (intOf i).toNat)
    case atStart => exact ⟨0, _, rfl, by omega, rfl, Below.refl _ _⟩
    case round =>
      obtain ⟨k, wr, rfl, hk, rfl, hb⟩ := hrel
      by_cases hlt : k < c3
      · obtain ⟨gL, off, rfl, _, hc⟩ := (HV3.out.below hb).atB k hlt
        obtain ⟨g', off', hgo, _, hc'⟩ := (HS3.out.below hb).atB k hlt
        simp at hgo
        obtain ⟨rfl, rfl⟩ := hgo
        rw [Nat.zero_add] at hc'
        have hx := byt_lt HBY.out k
        have hy := byt_lt HBD.out k
        have hf5 := F5.out k
        generalize byt L k = x at *
        generalize byt D k = y at *
        have b0 : (k : Int) < (c3 : Int) := by omega
        have b1 : (0 : Int) ≤ (k : Int) := by omega
        by_cases hxy : x = y
        · have hq2 : ((x : Int) != (y : Int)) = false := by simp [hxy]
          clear hxy hf5
          go_wp2_with fail
          go_quiet (fail)
          go_wp2_with fail
          go_roundw
          case rel => exact ⟨k + 1, _, by go_num, by omega, rfl, below_drewN hb _⟩
          case measure => simp [intOf]; omega
        · have hq2 : ((x : Int) != (y : Int)) = true := by simp; omega
          have h23 : k = 2 ∨ k = 3 := by
            by_cases h2 : k = 2
            · exact .inl h2
            · by_cases h3 : k = 3
              · exact .inr h3
              · exact absurd (hf5 h2 h3) hxy
          have hk2 : decide ((k : Int) < 2) = false := by simp; omega
          have hk3 : decide ((3 : Int) < (k : Int)) = false := by simp; omega
          clear hxy hf5 h23
          go_wp2_with fail
          go_quiet (fail)
          go_wp2_with fail
          go_roundw
          case rel => exact ⟨k + 1, _, by go_num, by omega, rfl, below_drewN hb _⟩
          case measure => simp [intOf]; omega
      · obtain ⟨gL, off, rfl, _, c2'⟩ := (HV3.out.below hb).atB 2 (by omega)
        obtain ⟨gL', off2, hgo, _, c3'⟩ := (HV3.out.below hb).atB 3 (by omega)
        simp at hgo
        obtain ⟨rfl, rfl⟩ := hgo
        obtain ⟨g', off', hgo, _, d2⟩ := (HS3.out.below hb).atB 2 (by omega)
        simp at hgo
        obtain ⟨rfl, rfl⟩ := hgo
        obtain ⟨g', off', hgo, _, d3⟩ := (HS3.out.below hb).atB 3 (by omega)
        simp at hgo
        obtain ⟨rfl, rfl⟩ := hgo
        rw [Nat.zero_add] at d2 d3
        have x2 := byt_lt HBY.out 2
        have x3 := byt_lt HBY.out 3
        have b2 : (2 : Int) < (c3 : Int) := by omega
        have b3 : (3 : Int) < (c3 : Int) := by omega
        have hf6 := F6.out
        generalize byt L 2 = X2 at *
        generalize byt L 3 = X3 at *
        generalize byt D 2 = Y2 at *
        generalize byt D 3 = Y3 at *
        rcases hf6 with ⟨rfl, rfl⟩ | ⟨rfl, rfl, rfl, rfl⟩
        · go_wp2_with fail
          go_quiet (fail)
          go_wp2_with fail
          go_quiet (fail)
          go_wp2_with fail
          go_ret
          exact ⟨rfl, HB03.out.trans ((below_drewN hb _).mono HB03.out.size)⟩
        · go_wp2_with fail
          go_quiet (fail)
          go_wp2_with fail
          go_quiet (fail)
          go_wp2_with fail
          go_ret
          exact ⟨rfl, HB03.out.trans ((below_drewN hb _).mono HB03.out.size)⟩
  · have HX : Hid (Calls Try.prog 12 #[.agg pa, .agg #[.int .u8 0, .int .u8 0, .int .u32 0, .slice none 0 0]] w2 fun e w' => e = .returned (.bool true) ∧ Below w2.heap.size w2 w') := by
      unfold Hid
      rw [HPA.out, pr_none' he]
      have := HS2.out
      rw [pr_none' he] at this
      exact controls_same Im.none0 _ _ w2 this (sees_nil _)
    have hq : (Im.prE L != 0) = true := by simp [he]
    generalize Im.prE L = q at *
    clear HPA HS2 he
    go_wp2_with (first | (refine wpList_ld 25 ⟨w1.heap.size, 0, none⟩ (.tmp 3) rfl rfl HL2.out rfl ?_) | fail)
    refine HX.out.mono ?_
    rintro _ w3 ⟨rfl, hb3⟩
    go_wp2_with fail
    go_ret
    exact ⟨rfl, HB02.out.trans (hb3.mono HB02.out.size)⟩
end Go.Proofs.Ytcboenmmkaochaa.N
