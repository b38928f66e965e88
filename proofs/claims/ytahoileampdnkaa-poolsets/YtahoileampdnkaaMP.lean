/-
  PoolSets.
-/
import Derived.Test.YtahoileampdnkaaMJG
import Derived.Test.YtahoileampdnkaaMN
namespace Go.Proofs.Ytahoileampdnkaa
open Go.ChangeShapes Go.WideShapes Go.ChangeAt Go.RowKit Ru N Tri
set_option maxHeartbeats 4000000
set_option maxRecDepth 100000

/-- The numbers of those of a list that may be had. -/
def SM (sub lo hi : Nat) (ks : List R) (L : List (Nat × Int)) (m : Nat) : Prop := ∃ x ∈ L, may sub lo hi ks x.1 x.2 ∧ m = num sub x.1

section
variable {sub lo hi : Nat} {ks js ts us : List R}

theorem sm_nil {m : Nat} : ¬ SM sub lo hi ks [] m := by rintro ⟨x, h, -⟩; simp at h
theorem sm_snoc {L : List (Nat × Int)} {x : Nat × Int} {m : Nat} : SM sub lo hi ks (L ++ [x]) m ↔ SM sub lo hi ks L m ∨ (may sub lo hi ks x.1 x.2 ∧ m = num sub x.1) := by
  constructor
  · rintro ⟨y, hy, h⟩
    rw [List.mem_append, List.mem_singleton] at hy
    rcases hy with hy | rfl
    · exact .inl ⟨y, hy, h⟩
    · exact .inr h
  · rintro (⟨y, hy, h⟩ | h)
    · exact ⟨y, List.mem_append.2 (.inl hy), h⟩
    · exact ⟨x, List.mem_append.2 (.inr (List.mem_singleton.2 rfl)), h⟩
theorem sm_cons {L : List (Nat × Int)} {x : Nat × Int} {m : Nat} : SM sub lo hi ks (x :: L) m ↔ (may sub lo hi ks x.1 x.2 ∧ m = num sub x.1) ∨ SM sub lo hi ks L m := by
  constructor
  · rintro ⟨y, hy, h⟩
    rcases List.mem_cons.1 hy with rfl | hy
    · exact .inl h
    · exact .inr ⟨y, hy, h⟩
  · rintro (h | ⟨y, hy, h⟩)
    · exact ⟨x, List.mem_cons_self, h⟩
    · exact ⟨y, List.mem_cons_of_mem _ hy, h⟩
theorem may_congr {x : Nat} {y : Int} (h : ∀ m, Mem ks m ↔ Mem js m) : may sub lo hi ks x y ↔ may sub lo hi js x y := by
  unfold may
  rw [h]
theorem sm_congr {L : List (Nat × Int)} {m : Nat} (h : ∀ m, Mem ks m ↔ Mem js m) : SM sub lo hi ks L m ↔ SM sub lo hi js L m := by
  unfold SM
  simp only [may_congr h]

theorem alg_inj {x x' : Nat} {y y' : Int} (h : alg sub x y = true) (h' : alg sub x' y' = true) (e : num sub x = num sub x') : (x, y) = (x', y') := by
  obtain ⟨h1, h2⟩ := alg_back h
  obtain ⟨h3, h4⟩ := alg_back h'
  rw [h1, h3, ← h2, ← h4, e]

/-- What is left behind the claims while the others are given back. -/
def Lef (sub lo hi : Nat) (js us : List R) (C O : List (Nat × Int)) : Prop := (∀ m, SM sub lo hi js C m → Mem us m) ∧ ∀ m, Mem us m → SM sub lo hi js C m ∨ SM sub lo hi js O m

theorem Lef.pass {C O : List (Nat × Int)} {x : Nat × Int} (h : Lef sub lo hi js us C (x :: O)) (hx : x ∈ C) : Lef sub lo hi js us C O := by
  refine ⟨h.1, fun m hm => ?_⟩
  rcases h.2 m hm with h | h
  · exact .inl h
  · rcases sm_cons.1 h with h | h
    · exact .inl ⟨x, hx, h⟩
    · exact .inr h

theorem Lef.free {us' : List R} {C O : List (Nat × Int)} {x : Nat × Int} (h : Lef sub lo hi js us C (x :: O)) (hx : x ∉ C) (hm : ∀ m, Mem us' m ↔ Mem us m ∧ ¬ (alg sub x.1 x.2 = true ∧ m = num sub x.1)) : Lef sub lo hi js us' C O := by
  refine ⟨fun m hs => (hm m).2 ⟨h.1 m hs, ?_⟩, fun m hu => ?_⟩
  · rintro ⟨h1, h2⟩
    obtain ⟨c, hc, hmay, he⟩ := hs
    have := alg_inj h1 hmay.1 (h2.symm.trans he)
    exact hx (by rw [show x = c from this]; exact hc)
  · obtain ⟨h1, h2⟩ := (hm m).1 hu
    rcases h.2 m h1 with h | h
    · exact .inl h
    · rcases sm_cons.1 h with h | h
      · exact absurd ⟨h.1.1, h.2⟩ h2
      · exact .inr h
end

theorem sets_walk (q : Sp) (v : Value) (C : List (Nat × Int)) (v2 : Value) (O : List (Nat × Int)) (w : World) (hq : q.Ok w) (hv : Sees w v C) (hC : ∀ p ∈ C, p.1 < 4294967296) (_ : C.length * 16 ≤ 140737488351232) (hv2 : Sees w v2 O) (hO : ∀ p ∈ O, p.1 < 4294967296) (_ : O.length * 16 ≤ 140737488351232) :
    Calls Try.prog 4 #[.agg q.cells, v, v2] w fun e w' => e = .returned (.bool true) ∧ Below w.heap.size w w' := by
  obtain ⟨x, y, s, lo0, hi0, kv, L⟩ := q
  obtain ⟨ak, nk, ck0, hkv, HNK, hk1, hk2⟩ := hq.kv.shape
  simp only at hkv
  subst hkv
  obtain ⟨ac, nc, cc0, rfl, HNC, hc1, hc2⟩ := hv.shape
  obtain ⟨ao, no, co0, rfl, HNO, ho1, ho2⟩ := hv2.shape
  obtain ⟨w2, HW2⟩ : ∃ w2, Hid (w2 = w.alloc (.cells #[.int .u32 (x : Int), .int .i64 y, .int .i64 s, .int .u32 (lo0 : Int), .int .u32 (hi0 : Int), .slice ak nk ck0] 28)) := ⟨_, rfl⟩
  have hb2 : Below w.heap.size w w2 := by rw [HW2.out]; exact (Below.refl _ _).alloc (Nat.le_refl _) _
  have r2 : w2.heap[w.heap.size]? = some (.cells #[.int .u32 (x : Int), .int .i64 y, .int .i64 s, .int .u32 (lo0 : Int), .int .u32 (hi0 : Int), .slice ak nk ck0] 28 (0, 0)) := by rw [HW2.out]; exact heap_alloc_new w _
  obtain ⟨sb, HSB⟩ : ∃ sb, Hid (sb = w.heap.size) := ⟨_, rfl⟩
  rw [← HSB.out] at r2
  have HCL : Hid (∀ u : World, Below w2.heap.size w2 u → u.cell? ⟨sb, 0, none⟩ = some (.int .u32 (x : Int)) ∧ u.cell? ⟨sb, 1, none⟩ = some (.int .i64 y) ∧ u.cell? ⟨sb, 2, none⟩ = some (.int .i64 s) ∧ u.cell? ⟨sb, 3, none⟩ = some (.int .u32 (lo0 : Int)) ∧ u.cell? ⟨sb, 4, none⟩ = some (.int .u32 (hi0 : Int)) ∧ u.cell? ⟨sb, 5, none⟩ = some (.slice ak nk ck0)) := fun u hu => by
    have hr := below_keeps hu r2 (Array.getElem?_eq_some_iff.1 r2).1
    refine ⟨?_, ?_, ?_, ?_, ?_, ?_⟩ <;> (rw [cell_of_row _ _ _ _ _ _ hr]; rfl)
  have HB2 := hid hb2
  have HBE := hid (begun_any w2)
  have HV := hid hv
  have HCC := hid hC
  have HV2 := hid hv2
  have HOO := hid hO
  have HSP : Hid (∀ u : World, Below w2.heap.size w2 u → Sp.Ok u ⟨x, y, s, lo0, hi0, .slice ak nk ck0, L⟩) := fun u hu => (hq.below HB2.out).below hu
  obtain ⟨ee, HEE⟩ : ∃ ee, Hid (ee = newE x y s lo0 hi0 L) := ⟨_, rfl⟩
  have HMD : ∀ u : World, Below w2.heap.size w2 u → Hid (Calls Try.prog 10 #[.agg #[.int .u32 (x : Int), .int .i64 y, .int .i64 s, .int .u32 (lo0 : Int), .int .u32 (hi0 : Int), .slice ak nk ck0]] u (News u x y s lo0 hi0 L)) := fun u hu => hid (made_any ⟨x, y, s, lo0, hi0, .slice ak nk ck0, L⟩ u (HSP.out u hu))
  have HSD : ∀ u : World, Below w2.heap.size w2 u → Hid (Calls Try.prog 11 #[.agg #[.int .u32 (x : Int), .int .i64 y, .int .i64 s, .int .u32 (lo0 : Int), .int .u32 (hi0 : Int), .slice ak nk ck0]] u fun e w' => e = .returned (.bool (decide (ee = 0))) ∧ Below u.heap.size u w') := fun u hu => by
    rw [HEE.out]; exact hid (sound_any ⟨x, y, s, lo0, hi0, .slice ak nk ck0, L⟩ u (HSP.out u hu))
  unfold News at HMD
  rw [← HEE.out] at HMD
  unfold Sp.cells
  simp only
  unfold maxLen at hc2 ho2
  clear hq hv hC hv2 hO hb2 r2 hk1 hk2
  go_enter Try.func4, Try.ntmps4
  go_upto_region 1 with fail
  rw [← HW2.out, ← HSB.out]
  go_wp2_with fail
  refine HBE.out.mono ?_
  rintro _ w3 ⟨rfl, hb3⟩
  have HB3 := hid hb3
  obtain ⟨c0, c1, c2, c3, c4, c5⟩ := HCL.out w3 hb3
  have HM3 := HMD w3 hb3
  clear hb3 HBE
  go_wp2_with fail
  refine HM3.out.mono ?_
  rintro e w4 (⟨h1, rfl, h3⟩ | ⟨h1, pb, sub, vk, ks, h2, rfl, h3, h4⟩)
  · have HB4 : Hid (Below w2.heap.size w2 w4) := HB3.out.trans (h3.mono HB3.out.size)
    clear c0 c1 c2 c3 c4 c5 h3 HM3
    obtain ⟨c0, c1, c2, c3, c4, c5⟩ := HCL.out w4 HB4.out
    have HM4 := HMD w4 HB4.out
    clear HMD
    go_wp2_with fail
    refine HM4.out.mono ?_
    rintro e w5 (⟨-, rfl, h3⟩ | ⟨h5, -⟩)
    rotate_left
    · exact absurd h5 h1
    have HB5 : Hid (Below w2.heap.size w2 w5) := HB4.out.trans (h3.mono HB4.out.size)
    clear c0 c1 c2 c3 c4 c5 h3 HM4
    obtain ⟨c0, c1, c2, c3, c4, c5⟩ := HCL.out w5 HB5.out
    have HS5 := HSD w5 HB5.out
    have hd : decide (ee = 0) = false := by simp [h1]
    rw [hd] at HS5
    have hd2 : (ee == 0) = false := by simp [h1]
    clear HSD hd
    go_wp2_with fail
    refine HS5.out.mono ?_
    rintro _ w6 ⟨rfl, hb6⟩
    have HB6 : Hid (Below w.heap.size w w6) := HB2.out.trans ((HB5.out.trans (hb6.mono HB5.out.size)).mono HB2.out.size)
    have hd3 : (ee != 0) = true := by simp [h1]
    clear c0 c1 c2 c3 c4 c5 hb6 HS5
    go_wp2_with fail
    go_ret
    exact ⟨rfl, HB6.out⟩
  · have HB4 : Hid (Below w2.heap.size w2 w4) := HB3.out.trans (h3.be.mono HB3.out.size)
    have hbw : Below w.heap.size w w4 := HB2.out.trans (HB4.out.mono HB2.out.size)
    have hMk : Mk w pb sub (num sub lo0) (num sub hi0) w4 vk ks := by
      have hb : Below w.heap.size w w3 := HB2.out.trans (HB3.out.mono HB2.out.size)
      exact ⟨Nat.le_trans hb.size h3.new, fun g hg => Nat.le_trans hb.size (h3.vnew g hg), hb.trans (h3.be.mono hb.size), h3.pool⟩
    obtain ⟨lo, HLO⟩ : ∃ lo, Hid (lo = num sub lo0) := ⟨_, rfl⟩
    obtain ⟨hi, HHI⟩ : ∃ hi, Hid (hi = num sub hi0) := ⟨_, rfl⟩
    have HMK := hid hMk
    have HBW := hid hbw
    have HH2 := hid (And.intro h2 h4)
    subst h1
    clear c0 c1 c2 c3 c4 c5 h2 h3 h4 HM3 hMk hbw
    obtain ⟨c0, c1, c2, c3, c4, c5⟩ := HCL.out w4 HB4.out
    have HM4 := HMD w4 HB4.out
    clear HMD
    go_wp2_with fail
    refine HM4.out.mono ?_
    rintro e w5 (⟨h5, -⟩ | ⟨-, qb, sub', vj, js, h6, rfl, h7, h8⟩)
    · exact absurd rfl h5
    obtain rfl : sub' = sub := by have := HH2.out.1; omega
    have HB5 : Hid (Below w2.heap.size w2 w5) := HB4.out.trans (h7.be.mono HB4.out.size)
    have hTW := Tw.of HBW.out HMK.out h7
    rw [← HLO.out, ← HHI.out] at hTW
    have HTW := hid hTW
    have HKJ : Hid (∀ m, Mem ks m ↔ Mem js m) := fun m => by rw [HH2.out.2 m, h8 m]
    clear c0 c1 c2 c3 c4 c5 h6 h7 h8 HM4 hTW HMK HBW HH2
    obtain ⟨c0, c1, c2, c3, c4, c5⟩ := HCL.out w5 HB5.out
    have HS5 := HSD w5 HB5.out
    simp only [decide_true] at HS5
    clear HSD
    go_wp2_with fail
    refine HS5.out.mono ?_
    rintro _ w6 ⟨rfl, hb6⟩
    have HT6 := hid (HTW.out.below hb6)
    clear c0 c1 c2 c3 c4 c5 hb6 HS5 HTW
    go_upto_region 11 with fail
    go_loopw [12] (fun i wr => ∃ (j : Nat) (us : List R), i = .int .i64 (j : Int) ∧ j ≤ no ∧ Hid (Tw w pb qb sub' lo hi ks js [] us wr) ∧ Hid (∀ m, Mem us m ↔ SM sub' lo hi js (O.take j) m)) (fun i _ => no - (intOf i).toNat)
    case atStart => exact ⟨0, _, rfl, Nat.zero_le _, HT6, hid fun m => ⟨fun h => absurd h mem_nil, fun h => absurd h sm_nil⟩⟩
    case round =>
      clear HT6
      obtain ⟨j, us, rfl, hj, HT, HS⟩ := hrel
      by_cases hjn : j < no
      · obtain ⟨g, off, p, hao, hg, d0, d1, HPJ⟩ := (HV2.out.below HT.out.be).at j hjn
        subst hao
        have HCM := hid (HT.out.swap.claim p.1 p.2 (HOO.out p (List.mem_of_getElem? HPJ.out)))
        have HTK : Hid (O.take (j + 1) = O.take j ++ [p]) := by
          obtain ⟨hl, he⟩ := List.getElem?_eq_some_iff.1 HPJ.out
          unfold Hid; rw [List.take_succ_eq_append_getElem hl, he]
        have b1 : (j : Int) < (no : Int) := int_lt hjn
        clear hg
        go_wp2_with fail
        refine HCM.out.mono ?_
        rintro _ w7 ⟨c, us', rfl, HM7, HT7⟩
        have HT7' := hid HT7.out.swap
        have HS7 : Hid (∀ m, Mem us' m ↔ SM sub' lo hi js (O.take (j + 1)) m) := fun m => by rw [HM7.out m, HTK.out, sm_snoc, HS.out m]
        clear d0 d1 HCM
        go_wp2_with fail
        go_roundw
        case rel => exact ⟨j + 1, us', by go_num, by omega, HT7', HS7⟩
        case measure => simp [intOf]; omega
      · have b1 : ¬ (j : Int) < (no : Int) := int_nlt hjn
        replace HS : Hid (∀ m, Mem us m ↔ SM sub' lo hi js O m) := by
          have h := HS.out
          rw [List.take_of_length_le (by have := HNO.out; omega)] at h
          exact h
        go_upto_region 15 with fail
        go_loopw [13] (fun i wr => ∃ (j : Nat) (ts : List R), i = .int .i64 (j : Int) ∧ j ≤ nc ∧ Hid (Tw w pb qb sub' lo hi ks js ts us wr) ∧ Hid (∀ m, Mem ts m ↔ SM sub' lo hi ks (C.take j) m)) (fun i _ => nc - (intOf i).toNat)
        case atStart => exact ⟨0, _, rfl, Nat.zero_le _, HT, hid fun m => ⟨fun h => absurd h mem_nil, fun h => absurd h sm_nil⟩⟩
        case round =>
          clear HT
          obtain ⟨j, ts, rfl, hj, HT, HS1⟩ := hrel
          by_cases hjn : j < nc
          · obtain ⟨g, off, p, hao, hg, d0, d1, HPJ⟩ := (HV.out.below HT.out.be).at j hjn
            subst hao
            have HCM := hid (HT.out.claim p.1 p.2 (HCC.out p (List.mem_of_getElem? HPJ.out)))
            have HTK : Hid (C.take (j + 1) = C.take j ++ [p]) := by
              obtain ⟨hl, he⟩ := List.getElem?_eq_some_iff.1 HPJ.out
              unfold Hid; rw [List.take_succ_eq_append_getElem hl, he]
            have b1 : (j : Int) < (nc : Int) := int_lt hjn
            clear hg
            go_wp2_with fail
            refine HCM.out.mono ?_
            rintro _ w7 ⟨c, ts', rfl, HM7, HT7⟩
            have HS7 : Hid (∀ m, Mem ts' m ↔ SM sub' lo hi ks (C.take (j + 1)) m) := fun m => by rw [HM7.out m, HTK.out, sm_snoc, HS1.out m]
            clear d0 d1 HCM
            go_wp2_with fail
            go_roundw
            case rel => exact ⟨j + 1, ts', by go_num, by omega, HT7, HS7⟩
            case measure => simp [intOf]; omega
          · have b1 : ¬ (j : Int) < (nc : Int) := int_nlt hjn
            replace HS1 : Hid (∀ m, Mem ts m ↔ SM sub' lo hi js C m) := fun m => by
              have h := HS1.out m
              rw [List.take_of_length_le (by have := HNC.out; omega), sm_congr HKJ.out] at h
              exact h
            have HS0 : Hid (∀ m, Mem us m ↔ SM sub' lo hi js O m ∨ SM sub' lo hi js (C.drop nc) m) := fun m => by
              rw [List.drop_of_length_le (by have := HNC.out; omega), HS.out m]
              exact ⟨.inl, fun h => h.elim id fun h => absurd h sm_nil⟩
            clear HS
            go_upto_region 19 with fail
            go_loopw [14] (fun i wr => ∃ (m : Nat) (us : List R), i = .int .i64 ((m : Int) - 1) ∧ m ≤ nc ∧ Hid (Tw w pb qb sub' lo hi ks js ts us wr) ∧ Hid (∀ n, Mem us n ↔ SM sub' lo hi js O n ∨ SM sub' lo hi js (C.drop m) n)) (fun i _ => (intOf i + 1).toNat)
            case atStart => exact ⟨nc, us, rfl, Nat.le_refl _, HT, HS0⟩
            case round =>
              clear HT HS0
              obtain ⟨m, us, rfl, hm, HT, HS0⟩ := hrel
              cases m with
              | zero =>
                have b2 : ¬ (0 : Int) ≤ ((0 : Nat) : Int) - 1 := by omega
                have HL0 : Hid (Lef sub' lo hi js us C (O.drop 0)) := by
                  have h := HS0.out
                  rw [List.drop_zero] at h
                  unfold Hid
                  rw [List.drop_zero]
                  exact ⟨fun m hm => (h m).2 (.inr hm), fun m hm => ((h m).1 hm).symm⟩
                clear HS0
                go_upto_region 23 with fail
                go_loopw [15] (fun i wr => ∃ (j : Nat) (us : List R), i = .int .i64 (j : Int) ∧ j ≤ no ∧ Hid (Tw w pb qb sub' lo hi ks js ts us wr) ∧ Hid (Lef sub' lo hi js us C (O.drop j))) (fun i _ => no - (intOf i).toNat)
                case atStart => exact ⟨0, us, rfl, Nat.zero_le _, HT, HL0⟩
                case round =>
                  clear HT HL0
                  obtain ⟨j, us, rfl, hj, HT, HL⟩ := hrel
                  by_cases hjn : j < no
                  · obtain ⟨g, off, p, hao, hg, d0, d1, HPJ⟩ := (HV2.out.below HT.out.be).at j hjn
                    have HHS := hid (has_any _ C p.1 p.2 wr (HV.out.below HT.out.be))
                    obtain ⟨bb, HBB⟩ : ∃ bb, Hid (bb = decide ((p.1, p.2) ∈ C)) := ⟨_, rfl⟩
                    rw [← HBB.out] at HHS
                    subst hao
                    have HDR : Hid (O.drop j = p :: O.drop (j + 1)) := by
                      obtain ⟨hl, he⟩ := List.getElem?_eq_some_iff.1 HPJ.out
                      unfold Hid; rw [List.drop_eq_getElem_cons hl, he]
                    have b1 : (j : Int) < (no : Int) := int_lt hjn
                    clear hg
                    go_wp2_with fail
                    refine HHS.out.mono ?_
                    rintro _ w7 ⟨rfl, hb7⟩
                    have HT7 := hid (HT.out.below hb7)
                    clear d0 d1 HHS hb7
                    cases bb with
                    | true =>
                      have HL2 : Hid (Lef sub' lo hi js us C (O.drop (j + 1))) := by
                        have h := HL.out
                        rw [HDR.out] at h
                        exact h.pass (by have := HBB.out; simpa using this.symm)
                      go_wp2_with fail
                      go_roundw
                      case rel => exact ⟨j + 1, us, by go_num, by omega, HT7, HL2⟩
                      case measure => simp [intOf]; omega
                    | false =>
                      obtain ⟨g', off', p', hao, hg, d0, d1, HPJ'⟩ := (HV2.out.below HT7.out.be).at j hjn
                      have hp' : p' = p := by have h := HPJ.out; rw [HPJ'.out] at h; simpa using h
                      subst hp'
                      simp only [Option.some.injEq, Addr.mk.injEq, and_true] at hao
                      obtain ⟨hao1, hao2⟩ := hao
                      subst hao1 hao2
                      have HFR := hid (HT7.out.swap.free p'.1 p'.2 (HOO.out p' (List.mem_of_getElem? HPJ.out)))
                      clear hg
                      go_upto_region 26 with fail
                      go_wp2_with fail
                      refine HFR.out.mono ?_
                      rintro _ w8 ⟨c, us', rfl, HM8, HT8⟩
                      have HT8' := hid HT8.out.swap
                      have HL2 : Hid (Lef sub' lo hi js us' C (O.drop (j + 1))) := by
                        have h := HL.out
                        rw [HDR.out] at h
                        exact h.free (by have := HBB.out; simpa using this.symm) HM8.out
                      clear d0 d1 HFR
                      go_wp2_with fail
                      go_roundw
                      case rel => exact ⟨j + 1, us', by go_num, by omega, HT8', HL2⟩
                      case measure => simp [intOf]; omega
                  · have b1 : ¬ (j : Int) < (no : Int) := int_nlt hjn
                    have HEQ : Hid (∀ m, Mem ts m ↔ Mem us m) := fun m => by
                      have h := HL.out
                      rw [List.drop_of_length_le (by have := HNO.out; omega)] at h
                      rw [HS1.out m]
                      exact ⟨h.1 m, fun hm => (h.2 m hm).elim id fun h => absurd h sm_nil⟩
                    have HTN := hid HT.out.taken
                    go_wp2_with fail
                    refine HTN.out.mono ?_
                    rintro _ w7 ⟨va, rfl, HA7⟩
                    have HT7 := hid (HT.out.below HA7.out.2)
                    have HTN7 := hid HT7.out.swap.taken
                    clear HTN
                    go_wp2_with fail
                    refine HTN7.out.mono ?_
                    rintro _ w8 ⟨vb, rfl, HA8⟩
                    have HT8 := hid (HT7.out.below HA8.out.2)
                    have HSM := hid (same_self va vb (tks sub' (els ts)) w8 (HA7.out.1.below HA8.out.2) (by rw [els_ext HT.out.facts.1 HT.out.facts.2.1 HEQ.out]; exact HA8.out.1))
                    clear HTN7
                    go_wp2_with fail
                    refine HSM.out.mono ?_
                    rintro _ w9 ⟨rfl, hb9⟩
                    have HT9 := hid (HT8.out.below hb9)
                    have HRP := hid HT9.out.room
                    obtain ⟨rm, HRM⟩ : ∃ rm, Hid (rm = cnt ks ts lo (hi + 1)) := ⟨_, rfl⟩
                    rw [← HRM.out] at HRP
                    clear hb9 HSM
                    go_wp2_with fail
                    refine HRP.out.mono ?_
                    rintro _ w10 ⟨rfl, hb10⟩
                    have HT10 := hid (HT9.out.below hb10.out)
                    have HRQ := hid HT10.out.swap.room
                    have hcc : cnt js us lo (hi + 1) = rm := by
                      rw [HRM.out]
                      exact cnt_congr fun x _ _ => by rw [HKJ.out x, HEQ.out x]
                    rw [hcc] at HRQ
                    clear hcc hb10 HRP
                    go_wp2_with fail
                    refine HRQ.out.mono ?_
                    rintro _ w11 ⟨rfl, hb11⟩
                    have HT11 := hid (HT10.out.below hb11.out)
                    clear hb11 HRQ HL HS1
                    go_upto_region 32 with fail
                    go_loopw [18] (fun i wr => ∃ (kk : Nat) (ts us : List R), i = .int .i64 (kk : Int) ∧ kk ≤ 3 ∧ Hid (Tw w pb qb sub' lo hi ks js ts us wr) ∧ Hid (∀ m, Mem ts m ↔ Mem us m)) (fun i _ => 3 - (intOf i).toNat)
                    case atStart => exact ⟨0, ts, us, rfl, by omega, HT11, HEQ⟩
                    case round =>
                      clear HT HT7 HT8 HT9 HT10 HT11 HEQ HA7 HA8 HRM
                      obtain ⟨kk, ts, us, rfl, hkk, HT, HEQ⟩ := hrel
                      by_cases hk3 : kk < 3
                      · have b3 : (kk : Int) < 3 := by omega
                        have HTP := hid HT.out.take
                        have HALL : Hid (∀ m, Mem ks m ∨ Mem ts m ↔ Mem js m ∨ Mem us m) := fun m => by rw [HKJ.out m, HEQ.out m]
                        go_upto_region 34 with fail
                        go_wp2_with fail
                        refine HTP.out.mono ?_
                        rintro _ w7 (⟨a, ts', rfl, HF7, HT7, -⟩ | ⟨rfl, HF7, HT7, -⟩)
                        · obtain ⟨aa, HAA⟩ : ∃ aa, Hid (aa = adr sub' a) := ⟨_, rfl⟩
                          rw [← HAA.out]
                          obtain ⟨xb, HXB⟩ : ∃ xb, Hid (xb = w7.heap.size) := ⟨_, rfl⟩
                          obtain ⟨w8, HW8⟩ : ∃ w8, Hid (w8 = w7.alloc (.cells #[.int .u32 (aa : Int), .int .i64 (sub' : Int)] 25)) := ⟨_, rfl⟩
                          have hb8 : Below w7.heap.size w7 w8 := by rw [HW8.out]; exact (Below.refl _ _).alloc (Nat.le_refl _) _
                          have r8 : w8.heap[xb]? = some (.cells #[.int .u32 (aa : Int), .int .i64 (sub' : Int)] 25 (0, 0)) := by rw [HW8.out, HXB.out]; exact heap_alloc_new w7 _
                          have HT8 := hid (HT7.out.below hb8)
                          have R8 := hid r8
                          clear hb8 r8 HTP
                          have HTQ := hid HT8.out.swap.take
                          go_upto_region 35 with fail
                          rw [← HW8.out, ← HXB.out]
                          go_wp2_with fail
                          refine HTQ.out.mono ?_
                          rintro _ w9 (⟨a', us', rfl, HF9, HT9, HK9⟩ | ⟨rfl, HF9, HT9, HK9⟩)
                          rotate_left
                          · exfalso
                            obtain ⟨f1, f2, f3, f4, -, -⟩ := HF7.out
                            rcases (HALL.out a).2 (HF9.out a f1 f2) with h | h
                            · exact f3 h
                            · exact f4 h
                          obtain ⟨f1, f2, f3, f4, f5, f6⟩ := HF7.out
                          obtain ⟨k1, k2, k3, k4, k5, k6⟩ := HF9.out
                          obtain rfl : a = a' := take_same HALL.out f1 f3 f4 f5 k1 k3 k4 k5
                          have HEQ2 : Hid (∀ m, Mem ts' m ↔ Mem us' m) := fun m => by rw [f6 m, k6 m, HEQ.out m]
                          rw [← HAA.out]
                          clear f1 f2 f3 f4 f5 f6 k1 k2 k3 k4 k5 k6 HTQ
                          obtain ⟨yb, HYB⟩ : ∃ yb, Hid (yb = w9.heap.size) := ⟨_, rfl⟩
                          obtain ⟨w10, HW10⟩ : ∃ w10, Hid (w10 = w9.alloc (.cells #[.int .u32 (aa : Int), .int .i64 (sub' : Int)] 25)) := ⟨_, rfl⟩
                          have hb10 : Below w9.heap.size w9 w10 := by rw [HW10.out]; exact (Below.refl _ _).alloc (Nat.le_refl _) _
                          have r10 : w10.heap[yb]? = some (.cells #[.int .u32 (aa : Int), .int .i64 (sub' : Int)] 25 (0, 0)) := by rw [HW10.out, HYB.out]; exact heap_alloc_new w9 _
                          have HT10 := hid (HT9.out.swap.below hb10)
                          have x10 := KpP.of hb10 _ _ (HK9.out _ _ R8.out)
                          have d0 : w10.cell? ⟨xb, 0, none⟩ = some (.int .u32 (aa : Int)) := by rw [cell_of_row _ _ _ _ _ _ x10]; rfl
                          have d1 : w10.cell? ⟨xb, 1, none⟩ = some (.int .i64 (sub' : Int)) := by rw [cell_of_row _ _ _ _ _ _ x10]; rfl
                          have d2 : w10.cell? ⟨yb, 0, none⟩ = some (.int .u32 (aa : Int)) := by rw [cell_of_row _ _ _ _ _ _ r10]; rfl
                          have d3 : w10.cell? ⟨yb, 1, none⟩ = some (.int .i64 (sub' : Int)) := by rw [cell_of_row _ _ _ _ _ _ r10]; rfl
                          clear hb10 r10 x10
                          go_upto_region 36 with fail
                          rw [← HW10.out, ← HYB.out]
                          clear b3
                          go_wp2_with fail
                          go_roundw
                          case rel => exact ⟨kk + 1, ts', us', by go_num, by omega, HT10, HEQ2⟩
                          case measure => simp [intOf]; omega
                        · skip
                          obtain ⟨xb, HXB⟩ : ∃ xb, Hid (xb = w7.heap.size) := ⟨_, rfl⟩
                          obtain ⟨w8, HW8⟩ : ∃ w8, Hid (w8 = w7.alloc (.cells #[.int .u32 0, .int .i64 0] 25)) := ⟨_, rfl⟩
                          have hb8 : Below w7.heap.size w7 w8 := by rw [HW8.out]; exact (Below.refl _ _).alloc (Nat.le_refl _) _
                          have r8 : w8.heap[xb]? = some (.cells #[.int .u32 0, .int .i64 0] 25 (0, 0)) := by rw [HW8.out, HXB.out]; exact heap_alloc_new w7 _
                          have HT8 := hid (HT7.out.below hb8)
                          have R8 := hid r8
                          clear hb8 r8 HTP
                          have HTQ := hid HT8.out.swap.take
                          go_upto_region 35 with fail
                          rw [← HW8.out, ← HXB.out]
                          go_wp2_with fail
                          refine HTQ.out.mono ?_
                          rintro _ w9 (⟨a', us', rfl, HF9, HT9, HK9⟩ | ⟨rfl, HF9, HT9, HK9⟩)
                          · exfalso
                            obtain ⟨k1, k2, k3, k4, -, -⟩ := HF9.out
                            rcases (HALL.out a').1 (HF7.out a' k1 k2) with h | h
                            · exact k3 h
                            · exact k4 h
                          clear HTQ
                          obtain ⟨yb, HYB⟩ : ∃ yb, Hid (yb = w9.heap.size) := ⟨_, rfl⟩
                          obtain ⟨w10, HW10⟩ : ∃ w10, Hid (w10 = w9.alloc (.cells #[.int .u32 0, .int .i64 0] 25)) := ⟨_, rfl⟩
                          have hb10 : Below w9.heap.size w9 w10 := by rw [HW10.out]; exact (Below.refl _ _).alloc (Nat.le_refl _) _
                          have r10 : w10.heap[yb]? = some (.cells #[.int .u32 0, .int .i64 0] 25 (0, 0)) := by rw [HW10.out, HYB.out]; exact heap_alloc_new w9 _
                          have HT10 := hid (HT9.out.swap.below hb10)
                          have x10 := KpP.of hb10 _ _ (HK9.out _ _ R8.out)
                          have d0 : w10.cell? ⟨xb, 0, none⟩ = some (.int .u32 0) := by rw [cell_of_row _ _ _ _ _ _ x10]; rfl
                          have d1 : w10.cell? ⟨xb, 1, none⟩ = some (.int .i64 0) := by rw [cell_of_row _ _ _ _ _ _ x10]; rfl
                          have d2 : w10.cell? ⟨yb, 0, none⟩ = some (.int .u32 0) := by rw [cell_of_row _ _ _ _ _ _ r10]; rfl
                          have d3 : w10.cell? ⟨yb, 1, none⟩ = some (.int .i64 0) := by rw [cell_of_row _ _ _ _ _ _ r10]; rfl
                          clear hb10 r10 x10
                          go_upto_region 36 with fail
                          rw [← HW10.out, ← HYB.out]
                          clear b3
                          go_wp2_with fail
                          go_roundw
                          case rel => exact ⟨kk + 1, ts, us, by go_num, by omega, HT10, HEQ⟩
                          case measure => simp [intOf]; omega
                      · have b3 : ¬ (kk : Int) < 3 := by omega
                        go_wp2_with fail
                        go_ret
                        exact ⟨rfl, HT.out.be⟩
              | succ k =>
                have e : ((k + 1 : Nat) : Int) - 1 = (k : Int) := by omega
                have hk : k < nc := by omega
                rw [e]
                obtain ⟨g, off, p, hao, hg, d0, d1, HPJ⟩ := (HV.out.below HT.out.be).at k hk
                subst hao
                have HCM := hid (HT.out.swap.claim p.1 p.2 (HCC.out p (List.mem_of_getElem? HPJ.out)))
                have HDR : Hid (C.drop k = p :: C.drop (k + 1)) := by
                  obtain ⟨hl, he⟩ := List.getElem?_eq_some_iff.1 HPJ.out
                  unfold Hid; rw [List.drop_eq_getElem_cons hl, he]
                have b2 : (0 : Int) ≤ (k : Int) := by omega
                have b3 : (k : Int) < (nc : Int) := int_lt hk
                clear hg e
                go_wp2_with fail
                refine HCM.out.mono ?_
                rintro _ w7 ⟨c, us', rfl, HM7, HT7⟩
                have HT7' := hid HT7.out.swap
                have HS7 : Hid (∀ m, Mem us' m ↔ SM sub' lo hi js O m ∨ SM sub' lo hi js (C.drop k) m) := fun m => by
                  rw [HM7.out m, HDR.out, sm_cons, HS0.out m]
                  constructor
                  · rintro ((h | h) | h)
                    · exact .inl h
                    · exact .inr (.inr h)
                    · exact .inr (.inl h)
                  · rintro (h | h | h)
                    · exact .inl (.inl h)
                    · exact .inr h
                    · exact .inl (.inr h)
                clear d0 d1 HCM
                go_wp2_with fail
                go_roundw
                case rel => exact ⟨k, us', by go_num, by omega, HT7', HS7⟩
                case measure => simp [intOf]
end Go.Proofs.Ytahoileampdnkaa
