/-
  AddrNewMemory: the walk.
-/
import Derived.Test.YtenhofbhkchjoaaAU2
import Derived.Test.YtenhofbhkchjoaaAU3
namespace Go.Proofs.Ytenhofbhkchjoaa
open Go.ChangeShapes Go.WideShapes Go.ChangeAt Go.RowKit
set_option maxHeartbeats 20000000
set_option maxRecDepth 100000

/-- Lists in blocks of their own. -/
def St (w0 w : World) (Xs : List (Value × List (Nat × Int))) : Prop := Vv w0 w Xs ∧ (Xs.map (·.1)).Pairwise Dis
section
variable {w0 w w' : World} {Xs : List (Value × List (Nat × Int))}
theorem St.below (h : St w0 w Xs) (hb : Below w.heap.size w w') : St w0 w' Xs := ⟨h.1.below hb, h.2⟩
theorem St.cons {v : Value} {A : List (Nat × Int)} (h : St w0 w Xs) (hb : Below w.heap.size w w') (ho : Me.OwnQ w' w.heap.size v A) : St w0 w' ((v, A) :: Xs) := by
  obtain ⟨h1, h2⟩ := h.1.cons hb ho
  refine ⟨h1, ?_⟩
  rw [List.map_cons]
  refine List.pairwise_cons.2 ⟨fun u hu => ?_, h.2⟩
  obtain ⟨e, he, rfl⟩ := List.mem_map.1 hu
  exact h2 e he
theorem St.dis (h : (Xs.map (·.1)).Pairwise Dis) {i j : Nat} {e e' : Value × List (Nat × Int)} (hi : Xs[i]? = some e) (hj : Xs[j]? = some e') (hij : i ≠ j) : Dis e.1 e'.1 := by
  have hp := List.pairwise_map.1 h
  obtain ⟨hi', rfl⟩ := List.getElem?_eq_some_iff.1 hi
  obtain ⟨hj', rfl⟩ := List.getElem?_eq_some_iff.1 hj
  have hq := List.pairwise_iff_getElem.1 hp
  rcases Nat.lt_or_gt_of_ne hij with e | e
  · exact hq i j hi' hj' e
  · exact (hq j i hj' hi' e).symm
/-- A new list is written at its head. -/
theorem stray {N B : Nat} {x : Value} {K : List (Nat × Int)} (h : Vv w0 w Xs) (hN : ∀ e ∈ Xs, ∀ k, e.1.ownBlock = some k → k < N) (ho : Me.OwnQ w B x K) (hB : N ≤ B) (hB0 : w0.heap.size ≤ B) (hK : 0 < K.length) (y1 y2 : Value) :
    ∃ (g cap : Nat) (p : Nat × Int), x = .slice (some ⟨g, 0, none⟩) K.length cap ∧ w.cell? ⟨g, 0, none⟩ = some (.int .u32 (p.1 : Int)) ∧ w.frozen? ⟨g, 0, none⟩ = false ∧ (w.setCell ⟨g, 0, none⟩ y1).cell? ⟨g, 1, none⟩ = some (.int .i64 p.2) ∧ (w.setCell ⟨g, 0, none⟩ y1).frozen? ⟨g, 1, none⟩ = false ∧
      Hid (Vv w0 ((w.setCell ⟨g, 0, none⟩ y1).setCell ⟨g, 1, none⟩ y2) Xs ∧ (w.heap.size ≤ ((w.setCell ⟨g, 0, none⟩ y1).setCell ⟨g, 1, none⟩ y2).heap.size) ∧ ∀ (B' : Nat) (u : Value) (K' : List (Nat × Int)), Me.OwnQ w B' u K' → Dis x u → Me.OwnQ ((w.setCell ⟨g, 0, none⟩ y1).setCell ⟨g, 1, none⟩ y2) B' u K') := by
  obtain ⟨a, cap, e, -, -, l0, l1⟩ := Me.ownQ_len ho
  subst e
  cases a with
  | none => have := (l0 rfl).1; omega
  | some p =>
    obtain ⟨g, rfl, hgB, hgz⟩ := l1 p rfl
    obtain ⟨c1, -, f1, -⟩ := Me.own_cell ho (List.getElem?_eq_getElem hK)
    obtain ⟨c2, f2⟩ := Me.own_next ho (List.getElem?_eq_getElem hK) y1
    simp only [Nat.zero_mul, Nat.zero_add] at c1 f1 c2 f2
    have hg := Me.grown_two w g 0 1 y1 y2
    refine ⟨g, cap, K[0], rfl, c1, f1, c2, f2, ⟨Me.below_grown h.be hg (fun k e => by cases e; omega) h.be.size, fun e he => Me.row_grown (h.vs e he) hg fun k hk e' => ?_⟩, hg.size, fun B' u K' hu hd => Me.row_grown hu hg fun k hk e' => ?_⟩
    · cases e'
      have := hN e he g hk
      omega
    · cases e'
      exact hd g rfl hk
end

theorem newmem_walk (lo hi : Nat) (v : Value) (L : List (Nat × Int)) (w : World) (hl : lo < 4294967296) (hh : hi < 4294967296) (hs : Sees w v L) (ha : Adr L) (hbL : L.length ≤ 1048576) :
    Calls Try.prog 5 #[.int .u32 lo, .int .u32 hi, v] w fun e w' => e = .returned (.bool true) ∧ Below w.heap.size w w' := by
  have HBG := hid (begun_any w)
  have HCP := hid (copied_any v L w hs (by omega))
  obtain ⟨ao, n, cap, rfl, HN, hn1, hn2⟩ := hs.shape
  have hnb : n ≤ 1048576 := by rw [HN.out]; exact hbL
  unfold maxLen at hn2
  have HS := hid hs
  have HA := hid ha
  obtain ⟨er, HER⟩ : ∃ er, Hid (er = merr L) := ⟨_, rfl⟩
  have HCV : Hid (∀ u, Calls Try.prog 9 #[.int .u32 lo, .int .u32 hi] u fun e w' => ∃ v, e = .returned v ∧ Me.OwnQ w' u.heap.size v ((M.cv lo hi).map pv) ∧ Below u.heap.size u w' ∧ ((M.cv lo hi).map pv).length ≤ 253952) := fun u => cover_q lo hi u hl hh
  have HMG : Hid (∀ u, Below w.heap.size w u → Calls Try.prog 16 #[.slice ao n cap] u fun e w' => ∃ v' R, e = .returned (.tuple #[v', .int .i64 er]) ∧ Me.OwnQ w' u.heap.size v' (R.map pv) ∧ Below u.heap.size u w' ∧ (R.map pv).length ≤ 253952 ∧ Hid (Mg L R)) := fun u hu => by
    rw [HER.out]; exact merge_q _ L u (hs.below hu) ha
  have HUN : Hid (∀ u, Below w.heap.size w u → Calls Try.prog 15 #[.int .u32 lo, .int .u32 hi, .slice ao n cap] u fun e w' => e = .returned (.bool true) ∧ Below u.heap.size u w') := fun u hu => untouched_any lo hi _ L u hl hh (hs.below hu) ha hbL
  have HPS : Hid (∀ (u : World) (B : Nat) (v : Value), Below w.heap.size w u → Me.OwnQ u B v L → Calls Try.prog 13 #[.slice ao n cap, v] u fun e w' => e = .returned (.bool true) ∧ Below u.heap.size u w') := fun u B v hu hv => by
    refine (same_any _ _ L L u (hs.below hu) (ownQ_sees hv)).mono ?_
    rintro e w' ⟨rfl, q, rfl⟩
    exact ⟨by rw [decide_eq_true rfl], below_drewQ (Below.refl _ _) q⟩
  generalize (M.cv lo hi).map pv = C at HCV
  clear hs ha hbL hl hh
  go_enter Try.func5, Try.ntmps5
  go_wp2_with fail
  refine HBG.out.mono ?_
  rintro _ w1 ⟨rfl, e⟩
  obtain rfl := e.symm
  clear HBG e
  go_wp2_with fail
  refine HCP.out.mono ?_
  rintro _ w1 ⟨v8, rfl, ho, hb⟩
  have hst : St w w1 [(v8, L)] := St.cons (Xs := []) ⟨⟨Below.refl _ _, fun e he => by cases he⟩, List.Pairwise.nil⟩ hb ho
  obtain ⟨a8, c8, e8, -⟩ := Me.ownQ_len (hst.1.vs _ List.mem_cons_self)
  simp only at e8
  subst e8
  obtain ⟨n8, HN8⟩ : ∃ n8, Hid (n8 = L.length) := ⟨_, rfl⟩
  rw [← HN8.out] at hst
  have HST1 := hid hst
  have HUC := hid (HUN.out w1 hst.1.be)
  clear HCP ho hb hst HUN
  rw [← HN8.out]
  go_wp2_with fail
  refine HUC.out.mono ?_
  rintro _ w2 ⟨rfl, hb⟩
  have HST2 := hid (HST1.out.below hb)
  clear HUC hb HST1
  obtain ⟨nc, HNC⟩ : ∃ nc, Hid (nc = C.length) := ⟨_, rfl⟩
  have HCC := hid (HCV.out w2)
  go_wp2_with fail
  refine HCC.out.mono ?_
  rintro _ w3 ⟨vv, rfl, ho, hb, hlc⟩
  have hst := HST2.out.cons hb ho
  obtain ⟨ac, cc, ee, hclc, hcmc, -⟩ := Me.ownQ_len (hst.1.vs _ List.mem_cons_self)
  simp only at ee
  subst ee
  rw [← HNC.out] at hst hclc hlc ⊢
  have HST3 := hid hst
  clear HCC ho hb hst HST2
  have HCC := hid (HCV.out w3)
  go_wp2_with fail
  refine HCC.out.mono ?_
  rintro _ w4 ⟨vv, rfl, ho, hb, hld⟩
  have hst := HST3.out.cons hb ho
  obtain ⟨ad, cd, ee, hcld, hcmd, -⟩ := Me.ownQ_len (hst.1.vs _ List.mem_cons_self)
  simp only at ee
  subst ee
  rw [← HNC.out] at hst hcld hld ⊢
  have HST4 := hid hst
  clear HCC ho hb hst HST3
  have HCC := hid (HMG.out w4 HST4.out.1.be)
  go_wp2_with fail
  refine HCC.out.mono ?_
  rintro _ w5 ⟨vv, R, rfl, ho, hb, hll, HMR⟩
  have hst := HST4.out.cons hb ho
  obtain ⟨al, cl, ee, hcll, hcml, -⟩ := Me.ownQ_len (hst.1.vs _ List.mem_cons_self)
  simp only at ee
  subst ee
  obtain ⟨nr, HNR⟩ : ∃ nr, Hid (nr = (R.map pv).length) := ⟨_, rfl⟩
  rw [← HNR.out] at hst hcll hll ⊢
  have HST5 := hid hst
  clear HCC ho hb hst HST4
  have HCC := hid (HMG.out w5 HST5.out.1.be)
  go_wp2_with fail
  refine HCC.out.mono ?_
  rintro _ w6 ⟨vv, R2, rfl, ho, hb, hlm, HMR2⟩
  obtain rfl : R2 = R := merged_same HMR2.out HMR.out
  clear HMR2
  have hst := HST5.out.cons hb ho
  obtain ⟨am, cm, ee, hclm, hcmm, -⟩ := Me.ownQ_len (hst.1.vs _ List.mem_cons_self)
  simp only at ee
  subst ee
  rw [← HNR.out] at hst hclm hlm ⊢
  have HST6 := hid hst
  clear HCC ho hb hst HST5
  obtain ⟨RR, HRR⟩ : ∃ RR, Hid (RR = R2.map pv) := ⟨_, rfl⟩
  have HRM : Hid (∀ R4, Mg L R4 → R4.map pv = RR) := fun R4 h4 => by rw [HRR.out, merged_same h4 HMR.out]
  rw [← HRR.out] at HST6 HNR
  clear HRR HMR
  have HSC := hid (same_q _ _ _ _ C w6 (HST6.out.1.vs (.slice ac nc cc, C) (by simp)) (HST6.out.1.vs (.slice ad nc cd, C) (by simp)))
  go_wp2_with fail
  refine HSC.out.mono ?_
  rintro _ w7 ⟨rfl, hb⟩
  have HST7 := hid (HST6.out.below hb)
  clear HSC hb HST6
  have HSC := hid (same_q _ _ _ _ RR w7 (HST7.out.1.vs (.slice al nr cl, RR) (by simp)) (HST7.out.1.vs (.slice am nr cm, RR) (by simp)))
  go_wp2_with fail
  refine HSC.out.mono ?_
  rintro _ w8 ⟨rfl, hb⟩
  have HST8 := hid (HST7.out.below hb)
  clear HSC hb HST7
  have HCC := hid (copied_q _ _ _ w8 (HST8.out.1.vs (.slice ac nc cc, C) (by simp)) (by rw [← HNC.out]; omega))
  go_wp2_with fail
  refine HCC.out.mono ?_
  rintro _ w9 ⟨vv, rfl, ho, hb⟩
  have hst := HST8.out.cons hb ho
  obtain ⟨as_, cs, ee, -⟩ := Me.ownQ_len (hst.1.vs _ List.mem_cons_self)
  simp only at ee
  subst ee
  rw [← HNC.out] at hst ⊢
  have HST9 := hid hst
  clear HCC ho hb hst HST8
  have HCC := hid (copied_q _ _ _ w9 (HST9.out.1.vs (.slice al nr cl, RR) (by simp)) (by rw [← HNR.out]; omega))
  go_wp2_with fail
  refine HCC.out.mono ?_
  rintro _ w10 ⟨vv, rfl, ho, hb⟩
  have hst := HST9.out.cons hb ho
  obtain ⟨at_, ct, ee, -⟩ := Me.ownQ_len (hst.1.vs _ List.mem_cons_self)
  simp only at ee
  subst ee
  rw [← HNR.out] at hst ⊢
  have HST10 := hid hst
  clear HCC ho hb hst HST9
  have HDS := hid HST10.out.2
  have HV0 := hid HST10.out.1
  clear HST10
  have HALC : Hid (Aln (.slice ac nc cc) [(.slice at_ nr ct, RR), (.slice as_ nc cs, C), (.slice am nr cm, RR), (.slice al nr cl, RR), (.slice ad nc cd, C), (.slice a8 n8 c8, L)]) := fun e he => by
    simp only [List.mem_cons, List.not_mem_nil, or_false] at he
    rcases he with rfl | rfl | rfl | rfl | rfl | rfl
    · exact St.dis HDS.out (i := 5) (j := 0) rfl rfl (by decide)
    · exact St.dis HDS.out (i := 5) (j := 1) rfl rfl (by decide)
    · exact St.dis HDS.out (i := 5) (j := 2) rfl rfl (by decide)
    · exact St.dis HDS.out (i := 5) (j := 3) rfl rfl (by decide)
    · exact St.dis HDS.out (i := 5) (j := 4) rfl rfl (by decide)
    · exact St.dis HDS.out (i := 5) (j := 6) rfl rfl (by decide)
  have HALL : Hid (Aln (.slice al nr cl) [(.slice ac nc cc, List.replicate nc (mz 6)), (.slice at_ nr ct, RR), (.slice as_ nc cs, C), (.slice am nr cm, RR), (.slice ad nc cd, C), (.slice a8 n8 c8, L)]) := fun e he => by
    simp only [List.mem_cons, List.not_mem_nil, or_false] at he
    rcases he with rfl | rfl | rfl | rfl | rfl | rfl
    · exact St.dis HDS.out (i := 3) (j := 5) (e := (.slice al nr cl, RR)) (e' := (.slice ac nc cc, C)) rfl rfl (by decide)
    · exact St.dis HDS.out (i := 3) (j := 0) rfl rfl (by decide)
    · exact St.dis HDS.out (i := 3) (j := 1) rfl rfl (by decide)
    · exact St.dis HDS.out (i := 3) (j := 2) rfl rfl (by decide)
    · exact St.dis HDS.out (i := 3) (j := 4) rfl rfl (by decide)
    · exact St.dis HDS.out (i := 3) (j := 6) rfl rfl (by decide)
  have HM1 : Hid (Mk1 w w10 (.slice ac nc cc) C 6 0 [(.slice at_ nr ct, RR), (.slice as_ nc cs, C), (.slice am nr cm, RR), (.slice al nr cl, RR), (.slice ad nc cd, C), (.slice a8 n8 c8, L)]) := Mk1.start (HV0.out.sub fun e he => by simp only [List.mem_cons, List.not_mem_nil, or_false] at he ⊢; rcases he with rfl | rfl | rfl | rfl | rfl | rfl | rfl <;> simp) HALC.out
  clear HV0 HALC
  have HMK : Hid (∀ (z : Nat) (u : World), z ≤ 100 → Calls Try.prog 17 #[.int .i64 (z : Int)] u fun e w' => e = .returned (.agg #[.int .u32 (z : Int), .int .i64 (40 + (z : Int))]) ∧ Below u.heap.size u w') := fun z u hz => mark_any z u hz
  go_upto_region 17 with fail
  go_loopw [18] (fun i wv => ∃ (p : Nat) (wr : World), wr = wv ∧ i = .int .i64 (p : Int) ∧ p ≤ nc ∧ Hid (Mk1 w wr (.slice ac nc cc) C 6 p [(.slice at_ nr ct, RR), (.slice as_ nc cs, C), (.slice am nr cm, RR), (.slice al nr cl, RR), (.slice ad nc cd, C), (.slice a8 n8 c8, L)])) (fun i _ => nc - (intOf i).toNat)
  case atStart => exact ⟨0, _, rfl, rfl, Nat.zero_le _, HM1⟩
  case round =>
  clear HM1
  obtain ⟨p, x, rfl, rfl, hp, HM1⟩ := hrel
  by_cases hpn : p < nc
  · have b1 : (p : Int) < (nc : Int) := by omega
    have HK : Hid (Calls Try.prog 17 #[.int .i64 6] x fun e w' => e = .returned (.agg #[.int .u32 6, .int .i64 46]) ∧ Below x.heap.size x w') := HMK.out 6 x (by decide)
    go_wp2_with fail
    refine HK.out.mono ?_
    rintro _ y ⟨rfl, hb⟩
    obtain ⟨q, xx, rfl, d0, d1, d2, d3, HM2⟩ := (HM1.out.below hb).step (by rw [← HNC.out]; exact hpn)
    have d2' : (y.setCell ⟨q, p * 2, none⟩ (.int .u32 6)).cell? ⟨q, p * 2 + 1, none⟩ = some (.int .i64 xx.2) := d2
    have d3' : (y.setCell ⟨q, p * 2, none⟩ (.int .u32 6)).frozen? ⟨q, p * 2 + 1, none⟩ = false := d3
    have HM4 : Hid (Mk1 w ((y.setCell ⟨q, p * 2, none⟩ (.int .u32 6)).setCell ⟨q, p * 2 + 1, none⟩ (.int .i64 46)) (.slice (some ⟨q, 0, none⟩) nc cc) C 6 (p + 1) [(.slice at_ nr ct, RR), (.slice as_ nc cs, C), (.slice am nr cm, RR), (.slice al nr cl, RR), (.slice ad nc cd, C), (.slice a8 n8 c8, L)]) := HM2
    clear HK hb HM1 d2 d3 HM2
    go_wp2_with fail
    go_roundw
    case rel => exact ⟨p + 1, _, rfl, by go_num, hpn, HM4⟩
    case measure => simp [intOf]; omega
  have b1 : ¬ (p : Int) < (nc : Int) := by omega
  obtain rfl : nc = p := by omega
  have HVC := HM1.out.done HNC.out
  have HM3 : Hid (Mk1 w x (.slice al nr cl) RR 7 0 [(.slice ac nc cc, List.replicate nc (mz 6)), (.slice at_ nr ct, RR), (.slice as_ nc cs, C), (.slice am nr cm, RR), (.slice ad nc cd, C), (.slice a8 n8 c8, L)]) := Mk1.start (HVC.sub fun e he => by simp only [List.mem_cons, List.not_mem_nil, or_false] at he ⊢; rcases he with rfl | rfl | rfl | rfl | rfl | rfl | rfl <;> simp) HALL.out
  clear HM1 HVC HALL
  obtain ⟨w11, HX⟩ : ∃ w11, w11 = x := ⟨_, rfl⟩
  subst HX
  have HM1 := HM3
  clear HM3 hp hpn b1
  go_upto_region 21 with fail
  go_loopw [19] (fun i wv => ∃ (p : Nat) (wr : World), wr = wv ∧ i = .int .i64 (p : Int) ∧ p ≤ nr ∧ Hid (Mk1 w wr (.slice al nr cl) RR 7 p [(.slice ac nc cc, List.replicate nc (mz 6)), (.slice at_ nr ct, RR), (.slice as_ nc cs, C), (.slice am nr cm, RR), (.slice ad nc cd, C), (.slice a8 n8 c8, L)])) (fun i _ => nr - (intOf i).toNat)
  case atStart => exact ⟨0, _, rfl, rfl, Nat.zero_le _, HM1⟩
  case round =>
  clear HM1
  obtain ⟨p, x, rfl, rfl, hp, HM1⟩ := hrel
  by_cases hpn : p < nr
  · have b1 : (p : Int) < (nr : Int) := by omega
    have HK : Hid (Calls Try.prog 17 #[.int .i64 7] x fun e w' => e = .returned (.agg #[.int .u32 7, .int .i64 47]) ∧ Below x.heap.size x w') := HMK.out 7 x (by decide)
    go_wp2_with fail
    refine HK.out.mono ?_
    rintro _ y ⟨rfl, hb⟩
    obtain ⟨q, xx, rfl, d0, d1, d2, d3, HM2⟩ := (HM1.out.below hb).step (by rw [← HNR.out]; exact hpn)
    have d2' : (y.setCell ⟨q, p * 2, none⟩ (.int .u32 7)).cell? ⟨q, p * 2 + 1, none⟩ = some (.int .i64 xx.2) := d2
    have d3' : (y.setCell ⟨q, p * 2, none⟩ (.int .u32 7)).frozen? ⟨q, p * 2 + 1, none⟩ = false := d3
    have HM4 : Hid (Mk1 w ((y.setCell ⟨q, p * 2, none⟩ (.int .u32 7)).setCell ⟨q, p * 2 + 1, none⟩ (.int .i64 47)) (.slice (some ⟨q, 0, none⟩) nr cl) RR 7 (p + 1) [(.slice ac nc cc, List.replicate nc (mz 6)), (.slice at_ nr ct, RR), (.slice as_ nc cs, C), (.slice am nr cm, RR), (.slice ad nc cd, C), (.slice a8 n8 c8, L)]) := HM2
    clear HK hb HM1 d2 d3 HM2
    go_wp2_with fail
    go_roundw
    case rel => exact ⟨p + 1, _, rfl, by go_num, hpn, HM4⟩
    case measure => simp [intOf]; omega
  have b1 : ¬ (p : Int) < (nr : Int) := by omega
  obtain rfl : nr = p := by omega
  have HVC := HM1.out.done HNR.out
  obtain ⟨Bs, HBS⟩ : ∃ Bs : List (Value × List (Nat × Int)), Hid (Bs = [(.slice ac nc cc, List.replicate nc (mz 6)), (.slice al nr cl, List.replicate nr (mz 7)), (.slice ad nc cd, C), (.slice am nr cm, RR), (.slice a8 n8 c8, L), (.slice as_ nc cs, C), (.slice at_ nr ct, RR)]) := ⟨_, rfl⟩
  have HLN : Hid (Ln w x Bs (.slice ac nc cc) (List.replicate nc (mz 6)) (.slice al nr cl) (List.replicate nr (mz 7)) (.slice ad nc cd) C (.slice am nr cm) RR) := by
    have hv : Vv w x [(.slice at_ nr ct, RR), (.slice as_ nc cs, C), (.slice am nr cm, RR), (.slice al nr cl, List.replicate nr (mz 7)), (.slice ad nc cd, C), (.slice ac nc cc, List.replicate nc (mz 6)), (.slice a8 n8 c8, L)] := HVC.sub fun e he => by simp only [List.mem_cons, List.not_mem_nil, or_false] at he ⊢; rcases he with rfl | rfl | rfl | rfl | rfl | rfl | rfl <;> simp
    refine Ln.start (i1 := 5) (i2 := 3) (i3 := 4) (i4 := 2) hv (List.pairwise_map.1 HDS.out) (fun e he => ?_) rfl rfl rfl rfl (by decide) (by decide) (by decide) (by decide) (by decide) (by decide)
    rw [HBS.out] at he
    simp only [List.mem_cons, List.not_mem_nil, or_false] at he ⊢
    rcases he with rfl | rfl | rfl | rfl | rfl | rfl | rfl <;> simp
  clear HM1 HVC HDS hp hpn b1
  obtain ⟨w12, HX⟩ : ∃ w12, w12 = x := ⟨_, rfl⟩
  subst HX
  have HPL1 : Hid ((List.replicate nc (mz 6)).length = nc) := List.length_replicate
  have HPL2 : Hid ((List.replicate nr (mz 7)).length = nr) := List.length_replicate
  have HPL3 : Hid (C.length = nc) := HNC.out.symm
  have HPL4 : Hid (RR.length = nr) := HNR.out.symm
  have HK : Hid (Calls Try.prog 17 #[.int .i64 1] w12 fun e w' => e = .returned (.agg #[.int .u32 1, .int .i64 41]) ∧ Below w12.heap.size w12 w') := HMK.out 1 w12 (by decide)
  go_wp2_with fail
  refine HK.out.mono ?_
  rintro _ w13 ⟨rfl, hb⟩
  have HLN2 := hid (HLN.out.below hb)
  clear HK hb HLN
  have HLN := HLN2
  clear HLN2
  obtain ⟨a1c, n1c, c1c, w14, HAP, HLN2, HLc⟩ := HLN.out.app (M := List.replicate 1 (mz 1)) (m := 1) rfl (by decide) (by rw [HPL1.out]; omega) #[.int .u32 1, .int .i64 41] rfl
  rw [HPL1.out] at HLc
  have HLN3 := hid HLN2.out.rot
  clear HLN HLN2
  have HLN := HLN3
  clear HLN3
  go_upto_region 25 with (first | (at_builtin; refine Go.Lib.wpList_append_run _ rfl (.tmp 98) (.tmp 100) 25 25 rfl _ _ rfl rfl _ _ HAP.out ?_) | fail)
  clear HAP
  have HK : Hid (Calls Try.prog 17 #[.int .i64 2] w14 fun e w' => e = .returned (.agg #[.int .u32 2, .int .i64 42]) ∧ Below w14.heap.size w14 w') := HMK.out 2 w14 (by decide)
  go_wp2_with fail
  refine HK.out.mono ?_
  rintro _ w15 ⟨rfl, hb⟩
  have HLN2 := hid (HLN.out.below hb)
  clear HK hb HLN
  have HLN := HLN2
  clear HLN2
  have HK : Hid (Calls Try.prog 17 #[.int .i64 2] w15 fun e w' => e = .returned (.agg #[.int .u32 2, .int .i64 42]) ∧ Below w15.heap.size w15 w') := HMK.out 2 w15 (by decide)
  go_wp2_with fail
  refine HK.out.mono ?_
  rintro _ w16 ⟨rfl, hb⟩
  have HLN2 := hid (HLN.out.below hb)
  clear HK hb HLN
  have HLN := HLN2
  clear HLN2
  obtain ⟨a1l, n1l, c1l, w17, HAP, HLN2, HLl⟩ := HLN.out.app (M := List.replicate 2 (mz 2)) (m := 2) rfl (by decide) (by rw [HPL2.out]; omega) #[.int .u32 2, .int .i64 42, .int .u32 2, .int .i64 42] rfl
  rw [HPL2.out] at HLl
  have HLN3 := hid HLN2.out.rot
  clear HLN HLN2
  have HLN := HLN3
  clear HLN3
  go_upto_region 26 with (first | (at_builtin; refine Go.Lib.wpList_append_run _ rfl (.tmp 102) (.tmp 105) 25 25 rfl _ _ rfl rfl _ _ HAP.out ?_) | fail)
  clear HAP
  have HK : Hid (Calls Try.prog 17 #[.int .i64 3] w17 fun e w' => e = .returned (.agg #[.int .u32 3, .int .i64 43]) ∧ Below w17.heap.size w17 w') := HMK.out 3 w17 (by decide)
  go_wp2_with fail
  refine HK.out.mono ?_
  rintro _ w18 ⟨rfl, hb⟩
  have HLN2 := hid (HLN.out.below hb)
  clear HK hb HLN
  have HLN := HLN2
  clear HLN2
  have HK : Hid (Calls Try.prog 17 #[.int .i64 3] w18 fun e w' => e = .returned (.agg #[.int .u32 3, .int .i64 43]) ∧ Below w18.heap.size w18 w') := HMK.out 3 w18 (by decide)
  go_wp2_with fail
  refine HK.out.mono ?_
  rintro _ w19 ⟨rfl, hb⟩
  have HLN2 := hid (HLN.out.below hb)
  clear HK hb HLN
  have HLN := HLN2
  clear HLN2
  have HK : Hid (Calls Try.prog 17 #[.int .i64 3] w19 fun e w' => e = .returned (.agg #[.int .u32 3, .int .i64 43]) ∧ Below w19.heap.size w19 w') := HMK.out 3 w19 (by decide)
  go_wp2_with fail
  refine HK.out.mono ?_
  rintro _ w20 ⟨rfl, hb⟩
  have HLN2 := hid (HLN.out.below hb)
  clear HK hb HLN
  have HLN := HLN2
  clear HLN2
  obtain ⟨a1d, n1d, c1d, w21, HAP, HLN2, HLd⟩ := HLN.out.app (M := List.replicate 3 (mz 3)) (m := 3) rfl (by decide) (by rw [HPL3.out]; omega) #[.int .u32 3, .int .i64 43, .int .u32 3, .int .i64 43, .int .u32 3, .int .i64 43] rfl
  rw [HPL3.out] at HLd
  have HLN3 := hid HLN2.out.rot
  clear HLN HLN2
  have HLN := HLN3
  clear HLN3
  go_upto_region 27 with (first | (at_builtin; refine Go.Lib.wpList_append_run _ rfl (.tmp 107) (.tmp 111) 25 25 rfl _ _ rfl rfl _ _ HAP.out ?_) | fail)
  clear HAP
  have HK : Hid (Calls Try.prog 17 #[.int .i64 4] w21 fun e w' => e = .returned (.agg #[.int .u32 4, .int .i64 44]) ∧ Below w21.heap.size w21 w') := HMK.out 4 w21 (by decide)
  go_wp2_with fail
  refine HK.out.mono ?_
  rintro _ w22 ⟨rfl, hb⟩
  have HLN2 := hid (HLN.out.below hb)
  clear HK hb HLN
  have HLN := HLN2
  clear HLN2
  obtain ⟨a1m, n1m, c1m, w23, HAP, HLN2, HLm⟩ := HLN.out.app (M := List.replicate 1 (mz 4)) (m := 1) rfl (by decide) (by rw [HPL4.out]; omega) #[.int .u32 4, .int .i64 44] rfl
  rw [HPL4.out] at HLm
  have HLN3 := hid HLN2.out.rot
  clear HLN HLN2
  have HLN := HLN3
  clear HLN3
  go_upto_region 29 with (first | (at_builtin; refine Go.Lib.wpList_append_run _ rfl (.tmp 113) (.tmp 115) 25 25 rfl _ _ rfl rfl _ _ HAP.out ?_) | fail)
  clear HAP
  go_loopw [20, 24] (fun v i wv => ∃ (q ln cg : Nat) (ag : Option Addr) (wr : World), wr = wv ∧ v = .slice ag ln cg ∧ i = .int .i64 (q : Int) ∧ q ≤ 70000 ∧ ln ≤ 253955 + q ∧ Hid (ln = nc + (1 + q)) ∧ Hid (Ln w wr Bs (.slice ag ln cg) ((List.replicate nc (mz 6)) ++ List.replicate (1 + q) (mz 1)) (.slice a1l n1l c1l) (List.replicate nr (mz 7) ++ List.replicate 2 (mz 2)) (.slice a1d n1d c1d) (C ++ List.replicate 3 (mz 3)) (.slice a1m n1m c1m) (RR ++ List.replicate 1 (mz 4)))) (fun _ i _ => 70000 - (intOf i).toNat)
  case atStart => exact ⟨0, n1c, c1c, a1c, _, rfl, rfl, rfl, Nat.zero_le _, by have := HLc.out; omega, HLc, HLN⟩
  case round =>
  clear HLN
  obtain ⟨qc, lnc, cgc, agc, x, rfl, rfl, rfl, hq, hln, HLE, HLN⟩ := hrel
  by_cases hc : lnc < cc ∧ qc < 70000
  · obtain ⟨hc1, hc2⟩ := hc
    have b1 : (lnc : Int) < (cc : Int) := by omega
    have b2 : (qc : Int) < 70000 := by omega
    have HK : Hid (Calls Try.prog 17 #[.int .i64 1] x fun e w' => e = .returned (.agg #[.int .u32 1, .int .i64 41]) ∧ Below x.heap.size x w') := HMK.out 1 x (by decide)
    go_wp2_with fail
    refine HK.out.mono ?_
    rintro _ y ⟨rfl, hb⟩
    obtain ⟨a', n', c', w', HAP, HLN2, HL2⟩ := (HLN.out.below hb).app (M := [mz 1]) (m := 1) rfl (by decide) (by rw [List.length_append, HPL1.out, List.length_replicate]; omega) #[.int .u32 1, .int .i64 41] rfl
    rw [List.length_append, HPL1.out, List.length_replicate] at HL2
    have HLN3 : Hid (Ln w w' Bs (.slice a' n' c') ((List.replicate nc (mz 6)) ++ List.replicate (1 + (qc + 1)) (mz 1)) (.slice a1l n1l c1l) (List.replicate nr (mz 7) ++ List.replicate 2 (mz 2)) (.slice a1d n1d c1d) (C ++ List.replicate 3 (mz 3)) (.slice a1m n1m c1m) (RR ++ List.replicate 1 (mz 4))) := by
      have := HLN2.out
      rw [List.append_assoc, ← List.replicate_succ'] at this
      exact this
    have HL3 : Hid (n' = nc + (1 + (qc + 1))) := HL2
    have hln3 : n' ≤ 253955 + (qc + 1) := by have := HL2.out; have := HLE.out; omega
    clear HK hb HLN HLN2 HL2
    go_wp2_with (first | (at_builtin; refine Go.Lib.wpList_append_run _ rfl (.tmp 128) (.tmp 130) 25 25 rfl _ _ rfl rfl _ _ HAP.out ?_) | fail)
    go_roundw
    case rel => exact ⟨qc + 1, n', c', a', _, rfl, rfl, by go_num, hc2, hln3, HL3, HLN3⟩
    case measure => simp [intOf]; omega
  go_upto_region 29 with fail
  go_cut [125] from 117 to 131 (fun e wx => e = .bool false ∧ wx = x)
  case first =>
    rcases Nat.lt_or_ge lnc cc with hqn | hqn
    · have b1 : ¬ (qc : Int) < 70000 := by omega
      have b2 : (lnc : Int) < (cc : Int) := by omega
      go_wp2_with fail
      go_meet
      case rel => exact ⟨rfl, rfl⟩
    · have b1 : ¬ (lnc : Int) < (cc : Int) := by omega
      go_wp2_with fail
      go_meet
      case rel => exact ⟨rfl, rfl⟩
  case rest =>
  obtain ⟨rfl, hcx⟩ := hcut
  obtain rfl := hcx.symm
  have HLN3 := hid HLN.out.rot
  have HLEc := HLE
  have hlnc := hln
  have hqc := hq
  clear HLN HLE hln hq hc HLc
  have HLN := HLN3
  clear HLN3
  obtain ⟨wg0, HX⟩ : ∃ wg0, wg0 = x := ⟨_, rfl⟩
  subst HX
  go_upto_region 33 with fail
  go_loopw [21, 25] (fun v i wv => ∃ (q ln cg : Nat) (ag : Option Addr) (wr : World), wr = wv ∧ v = .slice ag ln cg ∧ i = .int .i64 (q : Int) ∧ q ≤ 70000 ∧ ln ≤ 253955 + q ∧ Hid (ln = nr + (2 + q)) ∧ Hid (Ln w wr Bs (.slice ag ln cg) ((List.replicate nr (mz 7)) ++ List.replicate (2 + q) (mz 2)) (.slice a1d n1d c1d) (C ++ List.replicate 3 (mz 3)) (.slice a1m n1m c1m) (RR ++ List.replicate 1 (mz 4)) (.slice agc lnc cgc) ((List.replicate nc (mz 6)) ++ List.replicate (1 + qc) (mz 1)))) (fun _ i _ => 70000 - (intOf i).toNat)
  case atStart => exact ⟨0, n1l, c1l, a1l, _, rfl, rfl, rfl, Nat.zero_le _, by have := HLl.out; omega, HLl, HLN⟩
  case round =>
  clear HLN
  obtain ⟨ql, lnl, cgl, agl, x, rfl, rfl, rfl, hq, hln, HLE, HLN⟩ := hrel
  by_cases hc : lnl < cl ∧ ql < 70000
  · obtain ⟨hc1, hc2⟩ := hc
    have b1 : (lnl : Int) < (cl : Int) := by omega
    have b2 : (ql : Int) < 70000 := by omega
    have HK : Hid (Calls Try.prog 17 #[.int .i64 2] x fun e w' => e = .returned (.agg #[.int .u32 2, .int .i64 42]) ∧ Below x.heap.size x w') := HMK.out 2 x (by decide)
    go_wp2_with fail
    refine HK.out.mono ?_
    rintro _ y ⟨rfl, hb⟩
    obtain ⟨a', n', c', w', HAP, HLN2, HL2⟩ := (HLN.out.below hb).app (M := [mz 2]) (m := 1) rfl (by decide) (by rw [List.length_append, HPL2.out, List.length_replicate]; omega) #[.int .u32 2, .int .i64 42] rfl
    rw [List.length_append, HPL2.out, List.length_replicate] at HL2
    have HLN3 : Hid (Ln w w' Bs (.slice a' n' c') ((List.replicate nr (mz 7)) ++ List.replicate (2 + (ql + 1)) (mz 2)) (.slice a1d n1d c1d) (C ++ List.replicate 3 (mz 3)) (.slice a1m n1m c1m) (RR ++ List.replicate 1 (mz 4)) (.slice agc lnc cgc) ((List.replicate nc (mz 6)) ++ List.replicate (1 + qc) (mz 1))) := by
      have := HLN2.out
      rw [List.append_assoc, ← List.replicate_succ'] at this
      exact this
    have HL3 : Hid (n' = nr + (2 + (ql + 1))) := HL2
    have hln3 : n' ≤ 253955 + (ql + 1) := by have := HL2.out; have := HLE.out; omega
    clear HK hb HLN HLN2 HL2
    go_wp2_with (first | (at_builtin; refine Go.Lib.wpList_append_run _ rfl (.tmp 143) (.tmp 145) 25 25 rfl _ _ rfl rfl _ _ HAP.out ?_) | fail)
    go_roundw
    case rel => exact ⟨ql + 1, n', c', a', _, rfl, rfl, by go_num, hc2, hln3, HL3, HLN3⟩
    case measure => simp [intOf]; omega
  go_upto_region 33 with fail
  go_cut [140] from 132 to 146 (fun e wx => e = .bool false ∧ wx = x)
  case first =>
    rcases Nat.lt_or_ge lnl cl with hqn | hqn
    · have b1 : ¬ (ql : Int) < 70000 := by omega
      have b2 : (lnl : Int) < (cl : Int) := by omega
      go_wp2_with fail
      go_meet
      case rel => exact ⟨rfl, rfl⟩
    · have b1 : ¬ (lnl : Int) < (cl : Int) := by omega
      go_wp2_with fail
      go_meet
      case rel => exact ⟨rfl, rfl⟩
  case rest =>
  obtain ⟨rfl, hcx⟩ := hcut
  obtain rfl := hcx.symm
  have HLN3 := hid HLN.out.rot
  have HLEl := HLE
  have hlnl := hln
  have hql := hq
  clear HLN HLE hln hq hc HLl
  have HLN := HLN3
  clear HLN3
  obtain ⟨wg1, HX⟩ : ∃ wg1, wg1 = x := ⟨_, rfl⟩
  subst HX
  go_upto_region 37 with fail
  go_loopw [22, 26] (fun v i wv => ∃ (q ln cg : Nat) (ag : Option Addr) (wr : World), wr = wv ∧ v = .slice ag ln cg ∧ i = .int .i64 (q : Int) ∧ q ≤ 70000 ∧ ln ≤ 253955 + q ∧ Hid (ln = nc + (3 + q)) ∧ Hid (Ln w wr Bs (.slice ag ln cg) (C ++ List.replicate (3 + q) (mz 3)) (.slice a1m n1m c1m) (RR ++ List.replicate 1 (mz 4)) (.slice agc lnc cgc) ((List.replicate nc (mz 6)) ++ List.replicate (1 + qc) (mz 1)) (.slice agl lnl cgl) ((List.replicate nr (mz 7)) ++ List.replicate (2 + ql) (mz 2)))) (fun _ i _ => 70000 - (intOf i).toNat)
  case atStart => exact ⟨0, n1d, c1d, a1d, _, rfl, rfl, rfl, Nat.zero_le _, by have := HLd.out; omega, HLd, HLN⟩
  case round =>
  clear HLN
  obtain ⟨qd, lnd, cgd, agd, x, rfl, rfl, rfl, hq, hln, HLE, HLN⟩ := hrel
  by_cases hc : lnd < cd ∧ qd < 70000
  · obtain ⟨hc1, hc2⟩ := hc
    have b1 : (lnd : Int) < (cd : Int) := by omega
    have b2 : (qd : Int) < 70000 := by omega
    have HK : Hid (Calls Try.prog 17 #[.int .i64 3] x fun e w' => e = .returned (.agg #[.int .u32 3, .int .i64 43]) ∧ Below x.heap.size x w') := HMK.out 3 x (by decide)
    go_wp2_with fail
    refine HK.out.mono ?_
    rintro _ y ⟨rfl, hb⟩
    obtain ⟨a', n', c', w', HAP, HLN2, HL2⟩ := (HLN.out.below hb).app (M := [mz 3]) (m := 1) rfl (by decide) (by rw [List.length_append, HPL3.out, List.length_replicate]; omega) #[.int .u32 3, .int .i64 43] rfl
    rw [List.length_append, HPL3.out, List.length_replicate] at HL2
    have HLN3 : Hid (Ln w w' Bs (.slice a' n' c') (C ++ List.replicate (3 + (qd + 1)) (mz 3)) (.slice a1m n1m c1m) (RR ++ List.replicate 1 (mz 4)) (.slice agc lnc cgc) ((List.replicate nc (mz 6)) ++ List.replicate (1 + qc) (mz 1)) (.slice agl lnl cgl) ((List.replicate nr (mz 7)) ++ List.replicate (2 + ql) (mz 2))) := by
      have := HLN2.out
      rw [List.append_assoc, ← List.replicate_succ'] at this
      exact this
    have HL3 : Hid (n' = nc + (3 + (qd + 1))) := HL2
    have hln3 : n' ≤ 253955 + (qd + 1) := by have := HL2.out; have := HLE.out; omega
    clear HK hb HLN HLN2 HL2
    go_wp2_with (first | (at_builtin; refine Go.Lib.wpList_append_run _ rfl (.tmp 158) (.tmp 160) 25 25 rfl _ _ rfl rfl _ _ HAP.out ?_) | fail)
    go_roundw
    case rel => exact ⟨qd + 1, n', c', a', _, rfl, rfl, by go_num, hc2, hln3, HL3, HLN3⟩
    case measure => simp [intOf]; omega
  go_upto_region 37 with fail
  go_cut [155] from 147 to 161 (fun e wx => e = .bool false ∧ wx = x)
  case first =>
    rcases Nat.lt_or_ge lnd cd with hqn | hqn
    · have b1 : ¬ (qd : Int) < 70000 := by omega
      have b2 : (lnd : Int) < (cd : Int) := by omega
      go_wp2_with fail
      go_meet
      case rel => exact ⟨rfl, rfl⟩
    · have b1 : ¬ (lnd : Int) < (cd : Int) := by omega
      go_wp2_with fail
      go_meet
      case rel => exact ⟨rfl, rfl⟩
  case rest =>
  obtain ⟨rfl, hcx⟩ := hcut
  obtain rfl := hcx.symm
  have HLN3 := hid HLN.out.rot
  have HLEd := HLE
  have hlnd := hln
  have hqd := hq
  clear HLN HLE hln hq hc HLd
  have HLN := HLN3
  clear HLN3
  obtain ⟨wg2, HX⟩ : ∃ wg2, wg2 = x := ⟨_, rfl⟩
  subst HX
  go_upto_region 41 with fail
  go_loopw [23, 27] (fun v i wv => ∃ (q ln cg : Nat) (ag : Option Addr) (wr : World), wr = wv ∧ v = .slice ag ln cg ∧ i = .int .i64 (q : Int) ∧ q ≤ 70000 ∧ ln ≤ 253955 + q ∧ Hid (ln = nr + (1 + q)) ∧ Hid (Ln w wr Bs (.slice ag ln cg) (RR ++ List.replicate (1 + q) (mz 4)) (.slice agc lnc cgc) ((List.replicate nc (mz 6)) ++ List.replicate (1 + qc) (mz 1)) (.slice agl lnl cgl) ((List.replicate nr (mz 7)) ++ List.replicate (2 + ql) (mz 2)) (.slice agd lnd cgd) (C ++ List.replicate (3 + qd) (mz 3)))) (fun _ i _ => 70000 - (intOf i).toNat)
  case atStart => exact ⟨0, n1m, c1m, a1m, _, rfl, rfl, rfl, Nat.zero_le _, by have := HLm.out; omega, HLm, HLN⟩
  case round =>
  clear HLN
  obtain ⟨qm, lnm, cgm, agm, x, rfl, rfl, rfl, hq, hln, HLE, HLN⟩ := hrel
  by_cases hc : lnm < cm ∧ qm < 70000
  · obtain ⟨hc1, hc2⟩ := hc
    have b1 : (lnm : Int) < (cm : Int) := by omega
    have b2 : (qm : Int) < 70000 := by omega
    have HK : Hid (Calls Try.prog 17 #[.int .i64 4] x fun e w' => e = .returned (.agg #[.int .u32 4, .int .i64 44]) ∧ Below x.heap.size x w') := HMK.out 4 x (by decide)
    go_wp2_with fail
    refine HK.out.mono ?_
    rintro _ y ⟨rfl, hb⟩
    obtain ⟨a', n', c', w', HAP, HLN2, HL2⟩ := (HLN.out.below hb).app (M := [mz 4]) (m := 1) rfl (by decide) (by rw [List.length_append, HPL4.out, List.length_replicate]; omega) #[.int .u32 4, .int .i64 44] rfl
    rw [List.length_append, HPL4.out, List.length_replicate] at HL2
    have HLN3 : Hid (Ln w w' Bs (.slice a' n' c') (RR ++ List.replicate (1 + (qm + 1)) (mz 4)) (.slice agc lnc cgc) ((List.replicate nc (mz 6)) ++ List.replicate (1 + qc) (mz 1)) (.slice agl lnl cgl) ((List.replicate nr (mz 7)) ++ List.replicate (2 + ql) (mz 2)) (.slice agd lnd cgd) (C ++ List.replicate (3 + qd) (mz 3))) := by
      have := HLN2.out
      rw [List.append_assoc, ← List.replicate_succ'] at this
      exact this
    have HL3 : Hid (n' = nr + (1 + (qm + 1))) := HL2
    have hln3 : n' ≤ 253955 + (qm + 1) := by have := HL2.out; have := HLE.out; omega
    clear HK hb HLN HLN2 HL2
    go_wp2_with (first | (at_builtin; refine Go.Lib.wpList_append_run _ rfl (.tmp 173) (.tmp 175) 25 25 rfl _ _ rfl rfl _ _ HAP.out ?_) | fail)
    go_roundw
    case rel => exact ⟨qm + 1, n', c', a', _, rfl, rfl, by go_num, hc2, hln3, HL3, HLN3⟩
    case measure => simp [intOf]; omega
  go_upto_region 41 with fail
  go_cut [170] from 162 to 176 (fun e wx => e = .bool false ∧ wx = x)
  case first =>
    rcases Nat.lt_or_ge lnm cm with hqn | hqn
    · have b1 : ¬ (qm : Int) < 70000 := by omega
      have b2 : (lnm : Int) < (cm : Int) := by omega
      go_wp2_with fail
      go_meet
      case rel => exact ⟨rfl, rfl⟩
    · have b1 : ¬ (lnm : Int) < (cm : Int) := by omega
      go_wp2_with fail
      go_meet
      case rel => exact ⟨rfl, rfl⟩
  case rest =>
  obtain ⟨rfl, hcx⟩ := hcut
  obtain rfl := hcx.symm
  have HLN3 := hid HLN.out.rot
  have HLEm := HLE
  have hlnm := hln
  have hqm := hq
  clear HLN HLE hln hq hc HLm
  have HLN := HLN3
  clear HLN3
  obtain ⟨wg3, HX⟩ : ∃ wg3, wg3 = x := ⟨_, rfl⟩
  subst HX
  go_upto_region 44 with fail
  obtain ⟨Fs, HFS⟩ : ∃ Fs : List (Value × List (Nat × Int)), Hid (Fs = ((Value.slice agc lnc cgc, ((List.replicate nc (mz 6)) ++ List.replicate (1 + qc) (mz 1))) :: (.slice agl lnl cgl, ((List.replicate nr (mz 7)) ++ List.replicate (2 + ql) (mz 2))) :: (.slice agd lnd cgd, (C ++ List.replicate (3 + qd) (mz 3))) :: (.slice agm lnm cgm, (RR ++ List.replicate (1 + qm) (mz 4))) :: Bs)) := ⟨_, rfl⟩
  have HVV : Hid (Vv w wg3 Fs) := by unfold Hid; rw [HFS.out]; exact HLN.out.all
  have HFM : Hid (∀ e, e ∈ Bs → e ∈ Fs) := fun e he => by rw [HFS.out]; simp only [List.mem_cons]; exact .inr (.inr (.inr (.inr he)))
  have HQ1 : Hid (∀ y, Vv w y Fs → Calls Try.prog 18 #[.slice ac nc cc, .int .i64 6] y fun e w' => e = .returned (.bool true) ∧ Below y.heap.size y w') := fun y hy => all_any 6 _ nc y (by decide) (ownQ_sees (hy.vs (.slice ac nc cc, List.replicate nc (mz 6)) (HFM.out _ (by rw [HBS.out]; simp))))
  have HQ2 : Hid (∀ y, Vv w y Fs → Calls Try.prog 18 #[.slice al nr cl, .int .i64 7] y fun e w' => e = .returned (.bool true) ∧ Below y.heap.size y w') := fun y hy => all_any 7 _ nr y (by decide) (ownQ_sees (hy.vs (.slice al nr cl, List.replicate nr (mz 7)) (HFM.out _ (by rw [HBS.out]; simp))))
  have HOD : Hid (∀ y, Vv w y Fs → Me.OwnQ y w.heap.size (.slice ad nc cd) C ∧ Me.OwnQ y w.heap.size (.slice as_ nc cs) C ∧ Me.OwnQ y w.heap.size (.slice am nr cm) RR ∧ Me.OwnQ y w.heap.size (.slice at_ nr ct) RR ∧ Me.OwnQ y w.heap.size (.slice a8 n8 c8) L) := fun y hy => ⟨hy.vs (.slice ad nc cd, C) (HFM.out _ (by rw [HBS.out]; simp)), hy.vs (.slice as_ nc cs, C) (HFM.out _ (by rw [HBS.out]; simp)), hy.vs (.slice am nr cm, RR) (HFM.out _ (by rw [HBS.out]; simp)), hy.vs (.slice at_ nr ct, RR) (HFM.out _ (by rw [HBS.out]; simp)), hy.vs (.slice a8 n8 c8, L) (HFM.out _ (by rw [HBS.out]; simp))⟩
  have HQ3 : Hid (∀ y, Vv w y Fs → Calls Try.prog 13 #[.slice ad nc cd, .slice as_ nc cs] y fun e w' => e = .returned (.bool true) ∧ Below y.heap.size y w') := fun y hy => same_q _ _ _ _ C y (HOD.out y hy).1 (HOD.out y hy).2.1
  have HQ4 : Hid (∀ y, Vv w y Fs → Calls Try.prog 13 #[.slice am nr cm, .slice at_ nr ct] y fun e w' => e = .returned (.bool true) ∧ Below y.heap.size y w') := fun y hy => same_q _ _ _ _ RR y (HOD.out y hy).2.2.1 (HOD.out y hy).2.2.2.1
  have HQ5 : Hid (∀ y, Vv w y Fs → Calls Try.prog 13 #[.slice ao n cap, .slice a8 n8 c8] y fun e w' => e = .returned (.bool true) ∧ Below y.heap.size y w') := fun y hy => HPS.out y _ _ hy.be (HOD.out y hy).2.2.2.2
  have HOc : Hid (∀ y, Vv w y Fs → Me.OwnQ y w.heap.size (.slice agc lnc cgc) ((List.replicate nc (mz 6)) ++ List.replicate (1 + qc) (mz 1))) := fun y hy => hy.vs (.slice agc lnc cgc, ((List.replicate nc (mz 6)) ++ List.replicate (1 + qc) (mz 1))) (by rw [HFS.out]; simp)
  obtain ⟨gc, ec, HGc⟩ : ∃ gc, agc = some ⟨gc, 0, none⟩ ∧ Hid (lnc ≤ cgc) := by
    obtain ⟨a', c', e, h1, -, h2, h3⟩ := Me.ownQ_len (HOc.out _ HVV.out)
    simp only [Value.slice.injEq] at e
    obtain ⟨rfl, e2, rfl⟩ := e
    have hpos := HLEc.out
    cases agc with
    | none => have := (h2 rfl).1; omega
    | some p =>
      obtain ⟨g, rfl, -⟩ := h3 p rfl
      exact ⟨g, rfl, by unfold Hid; omega⟩
  subst ec
  obtain ⟨kc, HKc⟩ : ∃ kc, Hid (kc = 1 + qc) := ⟨_, rfl⟩
  obtain ⟨rc, HRc⟩ : ∃ rc, Hid (rc = cgc - nc) := ⟨_, rfl⟩
  have cutc : ∀ u : World, (Instr.sliceAt 25 (.slice (some ⟨gc, 0, none⟩) lnc cgc) (some (.int .i64 (nc : Int))) none none).run Try.prog u = .ok (.slice (some ⟨gc, nc * 2, none⟩) kc rc) u := fun u => by
    rw [HRc.out]
    exact cut_lo gc lnc cgc nc kc (by rw [HKc.out]; exact HLEc.out) (by have := HLEc.out; have := HGc.out; omega) u
  have HBc : Hid (∀ y, Vv w y Fs → Calls Try.prog 18 #[.slice (some ⟨gc, nc * 2, none⟩) kc rc, .int .i64 1] y fun e w' => e = .returned (.bool true) ∧ Below y.heap.size y w') := fun y hy => by
    have h1 := (ownQ_sees (HOc.out y hy)).back (m := nc) (by have := HLEc.out; omega)
    rw [List.drop_append_of_le_length (by rw [HPL1.out]; exact Nat.le_refl _), List.drop_of_length_le (by rw [HPL1.out]; exact Nat.le_refl _), List.nil_append, Nat.zero_add, ← HRc.out, ← HKc.out, show lnc - nc = kc by have := HLEc.out; have := HKc.out; omega] at h1
    exact all_any 1 _ kc y (by decide) h1
  have cuthc : ∀ u : World, (Instr.sliceAt 25 (.slice (some ⟨gc, 0, none⟩) lnc cgc) none (some (.int .i64 (nc : Int))) none).run Try.prog u = .ok (.slice (some ⟨gc, 0, none⟩) nc cgc) u := fun u => cut_hi gc lnc cgc nc (by have := HLEc.out; have := HGc.out; omega) u
  have HHc : Hid (∀ y, Vv w y Fs → Calls Try.prog 18 #[.slice (some ⟨gc, 0, none⟩) nc cgc, .int .i64 6] y fun e w' => e = .returned (.bool true) ∧ Below y.heap.size y w') := fun y hy => by
    have h1 := (ownQ_sees (HOc.out y hy)).front3 (m := nc) (c := cgc) (by have := HLEc.out; omega) (by have := HLEc.out; have := HGc.out; omega) (Nat.le_refl _)
    rw [List.take_append_of_le_length (by rw [HPL1.out]; exact Nat.le_refl _), List.take_of_length_le (by rw [HPL1.out]; exact Nat.le_refl _)] at h1
    exact all_any 6 _ nc y (by decide) h1
  have HOl : Hid (∀ y, Vv w y Fs → Me.OwnQ y w.heap.size (.slice agl lnl cgl) ((List.replicate nr (mz 7)) ++ List.replicate (2 + ql) (mz 2))) := fun y hy => hy.vs (.slice agl lnl cgl, ((List.replicate nr (mz 7)) ++ List.replicate (2 + ql) (mz 2))) (by rw [HFS.out]; simp)
  obtain ⟨gl, el, HGl⟩ : ∃ gl, agl = some ⟨gl, 0, none⟩ ∧ Hid (lnl ≤ cgl) := by
    obtain ⟨a', c', e, h1, -, h2, h3⟩ := Me.ownQ_len (HOl.out _ HVV.out)
    simp only [Value.slice.injEq] at e
    obtain ⟨rfl, e2, rfl⟩ := e
    have hpos := HLEl.out
    cases agl with
    | none => have := (h2 rfl).1; omega
    | some p =>
      obtain ⟨g, rfl, -⟩ := h3 p rfl
      exact ⟨g, rfl, by unfold Hid; omega⟩
  subst el
  obtain ⟨kl, HKl⟩ : ∃ kl, Hid (kl = 2 + ql) := ⟨_, rfl⟩
  obtain ⟨rl, HRl⟩ : ∃ rl, Hid (rl = cgl - nr) := ⟨_, rfl⟩
  have cutl : ∀ u : World, (Instr.sliceAt 25 (.slice (some ⟨gl, 0, none⟩) lnl cgl) (some (.int .i64 (nr : Int))) none none).run Try.prog u = .ok (.slice (some ⟨gl, nr * 2, none⟩) kl rl) u := fun u => by
    rw [HRl.out]
    exact cut_lo gl lnl cgl nr kl (by rw [HKl.out]; exact HLEl.out) (by have := HLEl.out; have := HGl.out; omega) u
  have HBl : Hid (∀ y, Vv w y Fs → Calls Try.prog 18 #[.slice (some ⟨gl, nr * 2, none⟩) kl rl, .int .i64 2] y fun e w' => e = .returned (.bool true) ∧ Below y.heap.size y w') := fun y hy => by
    have h1 := (ownQ_sees (HOl.out y hy)).back (m := nr) (by have := HLEl.out; omega)
    rw [List.drop_append_of_le_length (by rw [HPL2.out]; exact Nat.le_refl _), List.drop_of_length_le (by rw [HPL2.out]; exact Nat.le_refl _), List.nil_append, Nat.zero_add, ← HRl.out, ← HKl.out, show lnl - nr = kl by have := HLEl.out; have := HKl.out; omega] at h1
    exact all_any 2 _ kl y (by decide) h1
  have cuthl : ∀ u : World, (Instr.sliceAt 25 (.slice (some ⟨gl, 0, none⟩) lnl cgl) none (some (.int .i64 (nr : Int))) none).run Try.prog u = .ok (.slice (some ⟨gl, 0, none⟩) nr cgl) u := fun u => cut_hi gl lnl cgl nr (by have := HLEl.out; have := HGl.out; omega) u
  have HHl : Hid (∀ y, Vv w y Fs → Calls Try.prog 18 #[.slice (some ⟨gl, 0, none⟩) nr cgl, .int .i64 7] y fun e w' => e = .returned (.bool true) ∧ Below y.heap.size y w') := fun y hy => by
    have h1 := (ownQ_sees (HOl.out y hy)).front3 (m := nr) (c := cgl) (by have := HLEl.out; omega) (by have := HLEl.out; have := HGl.out; omega) (Nat.le_refl _)
    rw [List.take_append_of_le_length (by rw [HPL2.out]; exact Nat.le_refl _), List.take_of_length_le (by rw [HPL2.out]; exact Nat.le_refl _)] at h1
    exact all_any 7 _ nr y (by decide) h1
  have HOd : Hid (∀ y, Vv w y Fs → Me.OwnQ y w.heap.size (.slice agd lnd cgd) (C ++ List.replicate (3 + qd) (mz 3))) := fun y hy => hy.vs (.slice agd lnd cgd, (C ++ List.replicate (3 + qd) (mz 3))) (by rw [HFS.out]; simp)
  obtain ⟨gd, ed, HGd⟩ : ∃ gd, agd = some ⟨gd, 0, none⟩ ∧ Hid (lnd ≤ cgd) := by
    obtain ⟨a', c', e, h1, -, h2, h3⟩ := Me.ownQ_len (HOd.out _ HVV.out)
    simp only [Value.slice.injEq] at e
    obtain ⟨rfl, e2, rfl⟩ := e
    have hpos := HLEd.out
    cases agd with
    | none => have := (h2 rfl).1; omega
    | some p =>
      obtain ⟨g, rfl, -⟩ := h3 p rfl
      exact ⟨g, rfl, by unfold Hid; omega⟩
  subst ed
  obtain ⟨kd, HKd⟩ : ∃ kd, Hid (kd = 3 + qd) := ⟨_, rfl⟩
  obtain ⟨rd, HRd⟩ : ∃ rd, Hid (rd = cgd - nc) := ⟨_, rfl⟩
  have cutd : ∀ u : World, (Instr.sliceAt 25 (.slice (some ⟨gd, 0, none⟩) lnd cgd) (some (.int .i64 (nc : Int))) none none).run Try.prog u = .ok (.slice (some ⟨gd, nc * 2, none⟩) kd rd) u := fun u => by
    rw [HRd.out]
    exact cut_lo gd lnd cgd nc kd (by rw [HKd.out]; exact HLEd.out) (by have := HLEd.out; have := HGd.out; omega) u
  have HBd : Hid (∀ y, Vv w y Fs → Calls Try.prog 18 #[.slice (some ⟨gd, nc * 2, none⟩) kd rd, .int .i64 3] y fun e w' => e = .returned (.bool true) ∧ Below y.heap.size y w') := fun y hy => by
    have h1 := (ownQ_sees (HOd.out y hy)).back (m := nc) (by have := HLEd.out; omega)
    rw [List.drop_append_of_le_length (by rw [HPL3.out]; exact Nat.le_refl _), List.drop_of_length_le (by rw [HPL3.out]; exact Nat.le_refl _), List.nil_append, Nat.zero_add, ← HRd.out, ← HKd.out, show lnd - nc = kd by have := HLEd.out; have := HKd.out; omega] at h1
    exact all_any 3 _ kd y (by decide) h1
  have HOm : Hid (∀ y, Vv w y Fs → Me.OwnQ y w.heap.size (.slice agm lnm cgm) (RR ++ List.replicate (1 + qm) (mz 4))) := fun y hy => hy.vs (.slice agm lnm cgm, (RR ++ List.replicate (1 + qm) (mz 4))) (by rw [HFS.out]; simp)
  obtain ⟨gm, em, HGm⟩ : ∃ gm, agm = some ⟨gm, 0, none⟩ ∧ Hid (lnm ≤ cgm) := by
    obtain ⟨a', c', e, h1, -, h2, h3⟩ := Me.ownQ_len (HOm.out _ HVV.out)
    simp only [Value.slice.injEq] at e
    obtain ⟨rfl, e2, rfl⟩ := e
    have hpos := HLEm.out
    cases agm with
    | none => have := (h2 rfl).1; omega
    | some p =>
      obtain ⟨g, rfl, -⟩ := h3 p rfl
      exact ⟨g, rfl, by unfold Hid; omega⟩
  subst em
  obtain ⟨km, HKm⟩ : ∃ km, Hid (km = 1 + qm) := ⟨_, rfl⟩
  obtain ⟨rm, HRm⟩ : ∃ rm, Hid (rm = cgm - nr) := ⟨_, rfl⟩
  have cutm : ∀ u : World, (Instr.sliceAt 25 (.slice (some ⟨gm, 0, none⟩) lnm cgm) (some (.int .i64 (nr : Int))) none none).run Try.prog u = .ok (.slice (some ⟨gm, nr * 2, none⟩) km rm) u := fun u => by
    rw [HRm.out]
    exact cut_lo gm lnm cgm nr km (by rw [HKm.out]; exact HLEm.out) (by have := HLEm.out; have := HGm.out; omega) u
  have HBm : Hid (∀ y, Vv w y Fs → Calls Try.prog 18 #[.slice (some ⟨gm, nr * 2, none⟩) km rm, .int .i64 4] y fun e w' => e = .returned (.bool true) ∧ Below y.heap.size y w') := fun y hy => by
    have h1 := (ownQ_sees (HOm.out y hy)).back (m := nr) (by have := HLEm.out; omega)
    rw [List.drop_append_of_le_length (by rw [HPL4.out]; exact Nat.le_refl _), List.drop_of_length_le (by rw [HPL4.out]; exact Nat.le_refl _), List.nil_append, Nat.zero_add, ← HRm.out, ← HKm.out, show lnm - nr = km by have := HLEm.out; have := HKm.out; omega] at h1
    exact all_any 4 _ km y (by decide) h1
  clear HLN HPL1 HPL2 HPL3 HPL4 HOc HOl HOd HOm hlnc hlnl hlnd hlnm hqc hql hqd hqm HLEc HLEl HLEd HLEm HGc HGl HGd HGm HKc HKl HKd HKm HRc HRl HRd HRm HPS HFM HBS HFS
  have HX := hid (HQ1.out _ HVV.out)
  go_wp2_with fail
  refine HX.out.mono ?_
  rintro _ wh1 ⟨rfl, hb⟩
  have HVV2 := hid (HVV.out.below hb)
  clear hb HX HVV
  have HVV := HVV2
  clear HVV2
  have HX := hid (HQ2.out _ HVV.out)
  go_wp2_with fail
  refine HX.out.mono ?_
  rintro _ wh2 ⟨rfl, hb⟩
  have HVV2 := hid (HVV.out.below hb)
  clear hb HX HVV
  have HVV := HVV2
  clear HVV2
  have HX := hid (HQ3.out _ HVV.out)
  go_wp2_with fail
  refine HX.out.mono ?_
  rintro _ wh3 ⟨rfl, hb⟩
  have HVV2 := hid (HVV.out.below hb)
  clear hb HX HVV
  have HVV := HVV2
  clear HVV2
  have HX := hid (HQ4.out _ HVV.out)
  go_wp2_with fail
  refine HX.out.mono ?_
  rintro _ wh4 ⟨rfl, hb⟩
  have HVV2 := hid (HVV.out.below hb)
  clear hb HX HVV
  have HVV := HVV2
  clear HVV2
  have HX := hid (HQ5.out _ HVV.out)
  go_wp2_with fail
  refine HX.out.mono ?_
  rintro _ wh5 ⟨rfl, hb⟩
  have HVV2 := hid (HVV.out.below hb)
  clear hb HX HVV
  have HVV := HVV2
  clear HVV2
  have HX := hid (HBc.out _ HVV.out)
  go_wp2_with fail
  refine HX.out.mono ?_
  rintro _ wh6 ⟨rfl, hb⟩
  have HVV2 := hid (HVV.out.below hb)
  clear hb HX HVV
  have HVV := HVV2
  clear HVV2
  have HX := hid (HBl.out _ HVV.out)
  go_wp2_with fail
  refine HX.out.mono ?_
  rintro _ wh7 ⟨rfl, hb⟩
  have HVV2 := hid (HVV.out.below hb)
  clear hb HX HVV
  have HVV := HVV2
  clear HVV2
  have HX := hid (HBd.out _ HVV.out)
  go_wp2_with fail
  refine HX.out.mono ?_
  rintro _ wh8 ⟨rfl, hb⟩
  have HVV2 := hid (HVV.out.below hb)
  clear hb HX HVV
  have HVV := HVV2
  clear HVV2
  have HX := hid (HBm.out _ HVV.out)
  go_wp2_with fail
  refine HX.out.mono ?_
  rintro _ wh9 ⟨rfl, hb⟩
  have HVV2 := hid (HVV.out.below hb)
  clear hb HX HVV
  have HVV := HVV2
  clear HVV2
  obtain ⟨N, HNN⟩ : ∃ N, Hid (N = wh9.heap.size) := ⟨_, rfl⟩
  have HLT : Hid (∀ e ∈ Fs, ∀ k, e.1.ownBlock = some k → k < N) := fun e he k hk => by rw [HNN.out]; exact HVV.out.lt he hk
  have HWN : Hid (w.heap.size ≤ N) := by unfold Hid; rw [HNN.out]; exact HVV.out.be.size
  have HV7 : Hid (Vv w wh9 Fs ∧ N ≤ wh9.heap.size) := ⟨HVV.out, by rw [HNN.out]; exact Nat.le_refl _⟩
  clear HVV HNN
  go_upto_region 49 with fail
  go_loopw [28] (fun i wv => ∃ (j : Nat) (wr : World), wr = wv ∧ i = .int .i64 (j : Int) ∧ j ≤ n ∧ Hid (Vv w wr Fs ∧ N ≤ wr.heap.size)) (fun i _ => n - (intOf i).toNat)
  case atStart => exact ⟨0, _, rfl, rfl, Nat.zero_le _, HV7⟩
  case round =>
  clear HV7
  obtain ⟨j, x, rfl, rfl, hj, HV7⟩ := hrel
  by_cases hjn : j < n
  · have b3 : (j : Int) < (n : Int) := by omega
    have b4 : (0 : Int) ≤ (j : Int) := by omega
    have b5 : decide ((j : Int) < 0) = false := by simp
    obtain ⟨g0, o0, p, rfl, hg0, e0, e1, HP⟩ := (HS.out.below (below_drew1 HV7.out.1.be)).at j hjn
    have hp := HA.out p (List.mem_of_getElem? HP.out)
    have HCX : Hid (Calls Try.prog 9 #[.int .u32 p.1, .int .u32 p.1] x.drew fun e w' => ∃ a1 n1 c1 K, e = .returned (.slice a1 n1 c1) ∧ Hid (n1 = K.length) ∧ Hid (Me.OwnQ w' x.heap.size (.slice a1 n1 c1) K ∧ Vv w w' Fs ∧ N ≤ w'.heap.size ∧ N ≤ x.heap.size)) := by
      refine (cover_q p.1 p.1 x.drew hp hp).mono ?_
      rintro e w' ⟨v1, rfl, ho1, hb1, -⟩
      obtain ⟨a1, c1, ee1, -⟩ := Me.ownQ_len ho1
      subst ee1
      exact ⟨a1, _, c1, _, rfl, hid rfl, ho1, (HV7.out.1.below (below_drew1 (Below.refl _ _))).below hb1, Nat.le_trans HV7.out.2 hb1.size, HV7.out.2⟩
    have HPA : Hid (Adr [p]) := fun z hz => by simp at hz; subst hz; exact hp
    have HCE : Hid (∀ y, Below w.heap.size w y → y.cell? ⟨g0, o0 + j * 2, none⟩ = some (.int .u32 (p.1 : Int)) ∧ y.cell? ⟨g0, o0 + j * 2 + 1, none⟩ = some (.int .i64 p.2)) := fun y hy => by
      obtain ⟨g0', o0', p', eg, _, f0, f1, HP'⟩ := (HS.out.below hy).at j hjn
      simp only [Option.some.injEq, Addr.mk.injEq, and_true] at eg
      obtain ⟨rfl, rfl⟩ := eg
      obtain rfl : p' = p := by have := HP'.out; rw [HP.out] at this; exact (Option.some.inj this).symm
      exact ⟨f0, f1⟩
    clear HP hp
    obtain ⟨pa, pl⟩ := p
    simp only at HCX HCE e0 e1
    go_upto_region 51 with fail
    go_cut [29] from 233 to 272 (fun e wx => ∃ a1 n1 c1 K y, y = wx ∧ e = .slice a1 n1 c1 ∧ Hid (n1 = K.length) ∧ Hid (Me.OwnQ y x.heap.size (.slice a1 n1 c1) K ∧ Vv w y Fs ∧ N ≤ y.heap.size ∧ N ≤ x.heap.size))
    case first =>
      go_region_with (first | (go_at_call 9; refine HCX.out.mono ?_; rintro _ y1 ⟨a1, n1, c1, K1, rfl, HK1, HY1⟩) | fail)
      all_goals (
        go_wp2_with fail
        go_meet
        case rel => exact ⟨a1, n1, c1, K1, _, rfl, rfl, HK1, HY1⟩)
    case rest =>
    obtain ⟨a1, n1, c1, K1, y, hy, rfl, HK1, HY⟩ := hcut
    subst hy
    obtain ⟨f0, f1⟩ := HCE.out y HY.out.2.1.be
    obtain ⟨wz, HWZ⟩ : ∃ wz, Hid (wz = y.alloc (.cells #[.int .u32 (pa : Int), .int .i64 pl] 30)) := ⟨_, rfl⟩
    have hbz : Below y.heap.size y wz := by rw [HWZ.out]; exact (Below.refl _ _).alloc (Nat.le_refl _) _
    have HMC := merge_q (.slice (some ⟨y.heap.size, 0, none⟩) 1 1) [(pa, pl)] wz (by rw [HWZ.out]; exact sees_one (pa, pl)) HPA.out
    have HYZ : Hid (Me.OwnQ wz x.heap.size (.slice a1 n1 c1) K1 ∧ Vv w wz Fs ∧ y.heap.size ≤ wz.heap.size) := ⟨Me.row_below HY.out.1 hbz, HY.out.2.1.below hbz, hbz.size⟩
    have HMC2 : Hid (Calls Try.prog 16 #[.slice (some ⟨y.heap.size, 0, none⟩) 1 1] wz fun e w2 => ∃ a2 n2 c2 er2 K2, e = .returned (.tuple #[.slice a2 n2 c2, .int .i64 er2]) ∧ Hid (n2 = K2.length) ∧ Hid (Me.OwnQ w2 x.heap.size (.slice a1 n1 c1) K1 ∧ Vv w w2 Fs ∧ Me.OwnQ w2 y.heap.size (.slice a2 n2 c2) K2 ∧ Dis (.slice a1 n1 c1) (.slice a2 n2 c2) ∧ N ≤ w2.heap.size)) := by
      refine HMC.mono ?_
      rintro e w2 ⟨v2, R3, rfl, ho2, hb2, -, -⟩
      obtain ⟨a2, c2, ee2, -⟩ := Me.ownQ_len ho2
      subst ee2
      refine ⟨a2, _, c2, _, _, rfl, hid rfl, Me.row_below HYZ.out.1 hb2, HYZ.out.2.1.below hb2, Me.row_low ho2 HYZ.out.2.2, fun k hk hk' => ?_, ?_⟩
      · have := (World.ownsRow.lt HYZ.out.1 k hk).2
        have := (World.ownsRow.lt ho2 k hk').1
        omega
      · have := HY.out.2.2.1
        have := HYZ.out.2.2
        have := hb2.size
        omega
    rw [HWZ.out] at HMC2
    have HNX : Hid (N ≤ x.heap.size ∧ N ≤ y.heap.size) := ⟨HY.out.2.2.2, HY.out.2.2.1⟩
    clear e0 e1 HCX HCE HWZ HPA HMC HYZ hbz HY HV7
    go_wp2_with fail
    refine HMC2.out.mono ?_
    rintro _ w2 ⟨a2, n2, c2, er2, K2, rfl, HK2, HY2⟩
    clear f0 f1 HMC2
    by_cases hpos : 0 < n1 ∧ 0 < n2
    · obtain ⟨hp1, hp2⟩ := hpos
      have i1 : (0 : Int) < (n1 : Int) := by omega
      have i2 : (0 : Int) < (n2 : Int) := by omega
      have HK : Hid (Calls Try.prog 17 #[.int .i64 5] w2 fun e w' => e = .returned (.agg #[.int .u32 5, .int .i64 45]) ∧ Below w2.heap.size w2 w') := HMK.out 5 w2 (by decide)
      go_wp2_with fail
      refine HK.out.mono ?_
      rintro _ w3 ⟨rfl, hb⟩
      obtain ⟨o1, o2, o3, o4, o5⟩ := HY2.out
      obtain ⟨ga, ca, pp1, ex, d0, d1, d2, d3, HST⟩ := stray (o2.below hb) HLT.out (Me.row_below o1 hb) HNX.out.1 (by have := HWN.out; have := HNX.out; omega) (by rw [← HK1.out]; exact hp1) (.int .u32 5) (.int .i64 45)
      simp only [Value.slice.injEq] at ex
      obtain ⟨rfl, -, rfl⟩ := ex
      obtain ⟨w4, HW4⟩ : ∃ w4, Hid (w4 = (w3.setCell ⟨ga, 0, none⟩ (.int .u32 5)).setCell ⟨ga, 1, none⟩ (.int .i64 45)) := ⟨_, rfl⟩
      have HST4 : Hid (Vv w w4 Fs ∧ Me.OwnQ w4 y.heap.size (.slice a2 n2 c2) K2 ∧ N ≤ w4.heap.size) := by
        unfold Hid
        rw [HW4.out]
        exact ⟨HST.out.1, HST.out.2.2 _ _ _ (Me.row_below o3 hb) o4, Nat.le_trans o5 (Nat.le_trans hb.size HST.out.2.1)⟩
      clear HK hb o1 o2 o3 o4 o5 HST HY2
      go_upto_region 55 with fail
      rw [← HW4.out]
      clear d0 d1 d2 d3 HW4
      have HK : Hid (Calls Try.prog 17 #[.int .i64 5] w4 fun e w' => e = .returned (.agg #[.int .u32 5, .int .i64 45]) ∧ Below w4.heap.size w4 w') := HMK.out 5 w4 (by decide)
      go_wp2_with fail
      refine HK.out.mono ?_
      rintro _ w5 ⟨rfl, hb⟩
      obtain ⟨o1, o2, o3⟩ := HST4.out
      obtain ⟨gb, cb, pp2, ex, d0, d1, d2, d3, HST⟩ := stray (o1.below hb) HLT.out (Me.row_below o2 hb) HNX.out.2 (by have := HWN.out; have := HNX.out; omega) (by rw [← HK2.out]; exact hp2) (.int .u32 5) (.int .i64 45)
      simp only [Value.slice.injEq] at ex
      obtain ⟨rfl, -, rfl⟩ := ex
      have HV8 : Hid (Vv w ((w5.setCell ⟨gb, 0, none⟩ (.int .u32 5)).setCell ⟨gb, 1, none⟩ (.int .i64 45)) Fs ∧ N ≤ ((w5.setCell ⟨gb, 0, none⟩ (.int .u32 5)).setCell ⟨gb, 1, none⟩ (.int .i64 45)).heap.size) := ⟨HST.out.1, Nat.le_trans o3 (Nat.le_trans hb.size HST.out.2.1)⟩
      clear HK hb o1 o2 o3 HST HST4
      go_wp2_with fail
      go_roundw
      case rel => exact ⟨j + 1, _, rfl, by go_num, hjn, HV8⟩
      case measure => simp [intOf]; omega
    · have HV8 : Hid (Vv w w2 Fs ∧ N ≤ w2.heap.size) := ⟨HY2.out.2.1, HY2.out.2.2.2.2⟩
      clear HY2
      rcases Nat.eq_zero_or_pos n1 with h0 | h0
      · have i1 : ¬ (0 : Int) < (n1 : Int) := by omega
        clear hpos h0
        go_wp2_with fail
        go_roundw
        case rel => exact ⟨j + 1, _, rfl, by go_num, hjn, HV8⟩
        case measure => simp [intOf]; omega
      · have i1 : (0 : Int) < (n1 : Int) := by omega
        have i2 : ¬ (0 : Int) < (n2 : Int) := by omega
        clear hpos h0
        go_wp2_with fail
        go_roundw
        case rel => exact ⟨j + 1, _, rfl, by go_num, hjn, HV8⟩
        case measure => simp [intOf]; omega
  have b3 : ¬ (j : Int) < (n : Int) := by omega
  have HVV := hid HV7.out.1
  clear HV7 hj hjn HLT HWN
  have HX := hid (HQ1.out _ HVV.out)
  go_wp2_with fail
  refine HX.out.mono ?_
  rintro _ wh10 ⟨rfl, hb⟩
  have HVV2 := hid (HVV.out.below hb)
  clear hb HX HVV
  have HVV := HVV2
  clear HVV2
  have HX := hid (HQ2.out _ HVV.out)
  go_wp2_with fail
  refine HX.out.mono ?_
  rintro _ wh11 ⟨rfl, hb⟩
  have HVV2 := hid (HVV.out.below hb)
  clear hb HX HVV
  have HVV := HVV2
  clear HVV2
  have HX := hid (HQ3.out _ HVV.out)
  go_wp2_with fail
  refine HX.out.mono ?_
  rintro _ wh12 ⟨rfl, hb⟩
  have HVV2 := hid (HVV.out.below hb)
  clear hb HX HVV
  have HVV := HVV2
  clear HVV2
  have HX := hid (HQ4.out _ HVV.out)
  go_wp2_with fail
  refine HX.out.mono ?_
  rintro _ wh13 ⟨rfl, hb⟩
  have HVV2 := hid (HVV.out.below hb)
  clear hb HX HVV
  have HVV := HVV2
  clear HVV2
  have HX := hid (HBc.out _ HVV.out)
  go_wp2_with fail
  refine HX.out.mono ?_
  rintro _ wh14 ⟨rfl, hb⟩
  have HVV2 := hid (HVV.out.below hb)
  clear hb HX HVV
  have HVV := HVV2
  clear HVV2
  have HX := hid (HBl.out _ HVV.out)
  go_wp2_with fail
  refine HX.out.mono ?_
  rintro _ wh15 ⟨rfl, hb⟩
  have HVV2 := hid (HVV.out.below hb)
  clear hb HX HVV
  have HVV := HVV2
  clear HVV2
  have HX := hid (HBd.out _ HVV.out)
  go_wp2_with fail
  refine HX.out.mono ?_
  rintro _ wh16 ⟨rfl, hb⟩
  have HVV2 := hid (HVV.out.below hb)
  clear hb HX HVV
  have HVV := HVV2
  clear HVV2
  have HX := hid (HBm.out _ HVV.out)
  go_wp2_with fail
  refine HX.out.mono ?_
  rintro _ wh17 ⟨rfl, hb⟩
  have HVV2 := hid (HVV.out.below hb)
  clear hb HX HVV
  have HVV := HVV2
  clear HVV2
  have HCC := hid (HCV.out wh17)
  go_wp2_with fail
  refine HCC.out.mono ?_
  rintro _ z1 ⟨vv, rfl, ho, hb, -⟩
  obtain ⟨aq, cq, ee, -⟩ := Me.ownQ_len ho
  subst ee
  rw [← HNC.out] at ho ⊢
  have HVV2 := hid (HVV.out.below hb)
  have HO1 := hid ho
  have HMM := hid (HMG.out z1 HVV2.out.be)
  clear HCC ho hb HVV
  go_wp2_with fail
  refine HMM.out.mono ?_
  rintro _ z2 ⟨vv, R4, rfl, ho, hb, -, HMR4⟩
  have hR4 : R4.map pv = RR := HRM.out R4 HMR4.out
  rw [hR4] at ho
  obtain ⟨ax, cx, ee, -⟩ := Me.ownQ_len ho
  subst ee
  rw [← HNR.out] at ho ⊢
  have HVV := hid (HVV2.out.below hb)
  have HO2 := hid ho
  have HO1b : Hid (Me.OwnQ z2 wh17.heap.size (.slice aq nc cq) C) := Me.row_below HO1.out hb
  clear HMM ho hb HVV2 HO1 hR4 HMR4
  have HX := hid (same_q _ _ _ _ C z2 HO1b.out (HOD.out z2 HVV.out).2.1)
  go_wp2_with fail
  refine HX.out.mono ?_
  rintro _ z3 ⟨rfl, hb⟩
  have HVV2 := hid (HVV.out.below hb)
  have HO2b : Hid (Me.OwnQ z3 z1.heap.size (.slice ax nr cx) RR) := Me.row_below HO2.out hb
  clear HX hb HVV HO2 HO1b
  have HX := hid (same_q _ _ _ _ RR z3 HO2b.out (HOD.out z3 HVV2.out).2.2.2.1)
  go_wp2_with fail
  refine HX.out.mono ?_
  rintro _ z4 ⟨rfl, hb⟩
  have HVV := hid (HVV2.out.below hb)
  clear HX hb HVV2 HO2b
  have HX := hid (HQ3.out _ HVV.out)
  go_wp2_with fail
  refine HX.out.mono ?_
  rintro _ wh18 ⟨rfl, hb⟩
  have HVV2 := hid (HVV.out.below hb)
  clear hb HX HVV
  have HVV := HVV2
  clear HVV2
  have HX := hid (HQ4.out _ HVV.out)
  go_wp2_with fail
  refine HX.out.mono ?_
  rintro _ wh19 ⟨rfl, hb⟩
  have HVV2 := hid (HVV.out.below hb)
  clear hb HX HVV
  have HVV := HVV2
  clear HVV2
  have HX := hid (HQ5.out _ HVV.out)
  go_wp2_with fail
  refine HX.out.mono ?_
  rintro _ wh20 ⟨rfl, hb⟩
  have HVV2 := hid (HVV.out.below hb)
  clear hb HX HVV
  have HVV := HVV2
  clear HVV2
  have HX := hid (HHc.out _ HVV.out)
  go_wp2_with fail
  refine HX.out.mono ?_
  rintro _ wh21 ⟨rfl, hb⟩
  have HVV2 := hid (HVV.out.below hb)
  clear hb HX HVV
  have HVV := HVV2
  clear HVV2
  have HX := hid (HHl.out _ HVV.out)
  go_wp2_with fail
  refine HX.out.mono ?_
  rintro _ wh22 ⟨rfl, hb⟩
  have HVV2 := hid (HVV.out.below hb)
  clear hb HX HVV
  have HVV := HVV2
  clear HVV2
  have HB := hid HVV.out.be
  clear HVV
  go_wp2_with fail
  go_ret
  exact ⟨rfl, HB.out⟩
end Go.Proofs.Ytenhofbhkchjoaa
