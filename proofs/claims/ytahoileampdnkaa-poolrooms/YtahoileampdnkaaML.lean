/-
  PoolRooms.
-/
import Derived.Test.YtahoileampdnkaaMJG
import Derived.Test.YtahoileampdnkaaMM
namespace Go.Proofs.Ytahoileampdnkaa
open Go.ChangeShapes Go.WideShapes Go.ChangeAt Go.RowKit Ru N Tri
set_option maxHeartbeats 4000000
set_option maxRecDepth 100000

/-- What has been got. -/
def Got (ks ts : List R) (lo hi rm k : Nat) (A : List Nat) : Prop :=
  A.length = k ∧ A.Nodup ∧ (∀ a ∈ A, lo ≤ a ∧ a ≤ hi ∧ ¬ Mem ks a ∧ Mem ts a) ∧ cnt ks ts lo (hi + 1) + k = rm

theorem Got.take {ks ts ts' : List R} {lo hi rm k a : Nat} {A : List Nat} (h : Got ks ts lo hi rm k A) (h1 : lo ≤ a) (h2 : a ≤ hi) (h3 : ¬ Mem ks a) (h4 : ¬ Mem ts a) (h5 : ∀ m, Mem ts' m ↔ m = a ∨ Mem ts m) : Got ks ts' lo hi rm (k + 1) (A ++ [a]) ∧ cnt ks ts' lo (hi + 1) + k + 1 = rm := by
  obtain ⟨g1, g2, g3, g4⟩ := h
  have e := cnt_one h1 h2 h3 h4 h5
  refine ⟨⟨by simp [g1], ?_, fun b hb => ?_, by omega⟩, by omega⟩
  · rw [List.nodup_append]
    refine ⟨g2, List.nodup_cons.2 ⟨by simp, List.nodup_nil⟩, fun x hx y hy => ?_⟩
    rw [List.mem_singleton] at hy
    subst hy
    exact fun e => h4 (e ▸ (g3 x hx).2.2.2)
  · rw [List.mem_append, List.mem_singleton] at hb
    rcases hb with hb | rfl
    · obtain ⟨k1, k2, k3, k4⟩ := g3 b hb
      exact ⟨k1, k2, k3, (h5 b).2 (.inr k4)⟩
    · exact ⟨h1, h2, h3, (h5 b).2 (.inl rfl)⟩

/-- What is still to be given back. -/
def Back (ks ts : List R) (lo hi rm : Nat) (A : List Nat) : Prop :=
  A.Nodup ∧ (∀ a ∈ A, lo ≤ a ∧ a ≤ hi ∧ ¬ Mem ks a ∧ Mem ts a) ∧ cnt ks ts lo (hi + 1) + A.length = rm

theorem Back.free {ks ts ts' : List R} {lo hi rm a : Nat} {A : List Nat} (h : Back ks ts lo hi rm (a :: A)) (h5 : ∀ m, Mem ts' m ↔ m ≠ a ∧ Mem ts m) : Back ks ts' lo hi rm A ∧ cnt ks ts' lo (hi + 1) = cnt ks ts lo (hi + 1) + 1 := by
  obtain ⟨g1, g2, g3⟩ := h
  obtain ⟨k1, k2, k3, k4⟩ := g2 a List.mem_cons_self
  have e := cnt_one (ts := ts') (ts' := ts) k1 k2 k3 (fun h => ((h5 a).1 h).1 rfl) (fun m => by
    rw [h5 m]
    constructor
    · intro h
      by_cases e : m = a
      · exact .inl e
      · exact .inr ⟨e, h⟩
    · rintro (e | h)
      · rw [e]; exact k4
      · exact h.2)
  rw [List.nodup_cons] at g1
  rw [List.length_cons] at g3
  refine ⟨⟨g1.2, fun b hb => ?_, by omega⟩, e⟩
  obtain ⟨k1, k2, k3, k4⟩ := g2 b (List.mem_cons_of_mem _ hb)
  exact ⟨k1, k2, k3, (h5 b).2 ⟨fun e => g1.1 (e ▸ hb), k4⟩⟩

theorem rooms_walk (q : Sp) (v : Value) (C : List (Nat × Int)) (w : World) (hq : q.Ok w) (hv : Sees w v C) (hC : ∀ p ∈ C, p.1 < 4294967296) (_ : C.length * 16 ≤ 140737488351232) :
    Calls Try.prog 3 #[.agg q.cells, v] w fun e w' => e = .returned (.bool true) ∧ Below w.heap.size w w' := by
  obtain ⟨x, y, s, lo0, hi0, kv, L⟩ := q
  obtain ⟨ak, nk, ck0, hkv, HNK, hk1, hk2⟩ := hq.kv.shape
  simp only at hkv
  subst hkv
  obtain ⟨ac, nc, cc0, rfl, HNC, hc1, hc2⟩ := hv.shape
  obtain ⟨w2, HW2⟩ : ∃ w2, Hid (w2 = w.alloc (.cells #[.int .u32 (x : Int), .int .i64 y, .int .i64 s, .int .u32 (lo0 : Int), .int .u32 (hi0 : Int), .slice ak nk ck0] 28)) := ⟨_, rfl⟩
  have hb2 : Below w.heap.size w w2 := by rw [HW2.out]; exact (Below.refl _ _).alloc (Nat.le_refl _) _
  have r2 : w2.heap[w.heap.size]? = some (.cells #[.int .u32 (x : Int), .int .i64 y, .int .i64 s, .int .u32 (lo0 : Int), .int .u32 (hi0 : Int), .slice ak nk ck0] 28 (0, 0)) := by rw [HW2.out]; exact heap_alloc_new w _
  obtain ⟨sb, HSB⟩ : ∃ sb, Hid (sb = w.heap.size) := ⟨_, rfl⟩
  rw [← HSB.out] at r2
  have HCL : Hid (∀ u : World, Below w2.heap.size w2 u → u.cell? ⟨sb, 0, none⟩ = some (.int .u32 (x : Int)) ∧ u.cell? ⟨sb, 1, none⟩ = some (.int .i64 y) ∧ u.cell? ⟨sb, 2, none⟩ = some (.int .i64 s) ∧ u.cell? ⟨sb, 3, none⟩ = some (.int .u32 (lo0 : Int)) ∧ u.cell? ⟨sb, 4, none⟩ = some (.int .u32 (hi0 : Int)) ∧ u.cell? ⟨sb, 5, none⟩ = some (.slice ak nk ck0)) := fun u hu => by
    have hr := below_keeps hu r2 (Array.getElem?_eq_some_iff.1 r2).1
    refine ⟨?_, ?_, ?_, ?_, ?_, ?_⟩ <;> (rw [cell_of_row _ _ _ _ _ _ hr]; rfl)
  have HB2 := hid hb2
  have HBE := hid (begun_any w2)
  have HV := hid hv
  have HCC := hid hC
  have HSP : Hid (∀ u : World, Below w2.heap.size w2 u → Sp.Ok u ⟨x, y, s, lo0, hi0, .slice ak nk ck0, L⟩) := fun u hu => (hq.below HB2.out).below hu
  obtain ⟨ee, HEE⟩ : ∃ ee, Hid (ee = newE x y s lo0 hi0 L) := ⟨_, rfl⟩
  have HMD : ∀ u : World, Below w2.heap.size w2 u → Hid (Calls Try.prog 10 #[.agg #[.int .u32 (x : Int), .int .i64 y, .int .i64 s, .int .u32 (lo0 : Int), .int .u32 (hi0 : Int), .slice ak nk ck0]] u (News u x y s lo0 hi0 L)) := fun u hu => hid (made_any ⟨x, y, s, lo0, hi0, .slice ak nk ck0, L⟩ u (HSP.out u hu))
  have HSD : ∀ u : World, Below w2.heap.size w2 u → Hid (Calls Try.prog 11 #[.agg #[.int .u32 (x : Int), .int .i64 y, .int .i64 s, .int .u32 (lo0 : Int), .int .u32 (hi0 : Int), .slice ak nk ck0]] u fun e w' => e = .returned (.bool (decide (ee = 0))) ∧ Below u.heap.size u w') := fun u hu => by
    rw [HEE.out]; exact hid (sound_any ⟨x, y, s, lo0, hi0, .slice ak nk ck0, L⟩ u (HSP.out u hu))
  unfold News at HMD
  rw [← HEE.out] at HMD
  unfold Sp.cells
  simp only
  unfold maxLen at hc2
  clear hq hv hC hb2 r2 hk1 hk2
  go_enter Try.func3, Try.ntmps3
  go_upto_region 1 with fail
  rw [← HW2.out, ← HSB.out]
  go_wp2_with fail
  refine HBE.out.mono ?_
  rintro _ w3 ⟨rfl, hb3⟩
  have HB3 := hid hb3
  obtain ⟨c0, c1, c2, c3, c4, c5⟩ := HCL.out w3 hb3
  have HM3 := HMD w3 hb3
  clear hb3 HBE HMD
  go_wp2_with fail
  refine HM3.out.mono ?_
  rintro e w4 (⟨h1, rfl, h3⟩ | ⟨h1, pb, sub, vk, ks, h2, rfl, h3, h4⟩)
  · have HB4 : Hid (Below w2.heap.size w2 w4) := HB3.out.trans (h3.mono HB3.out.size)
    clear c0 c1 c2 c3 c4 c5 h3 HM3
    obtain ⟨c0, c1, c2, c3, c4, c5⟩ := HCL.out w4 HB4.out
    have HS4 := HSD w4 HB4.out
    have hd : decide (ee = 0) = false := by simp [h1]
    rw [hd] at HS4
    have hd2 : (ee == 0) = false := by simp [h1]
    clear HSD hd
    go_wp2_with fail
    refine HS4.out.mono ?_
    rintro _ w5 ⟨rfl, hb5⟩
    have HB5 : Hid (Below w.heap.size w w5) := HB2.out.trans ((HB4.out.trans (hb5.mono HB4.out.size)).mono HB2.out.size)
    clear c0 c1 c2 c3 c4 c5 hb5 HS4
    go_wp2_with fail
    go_ret
    exact ⟨ret_bool (by simp [h1]), HB5.out⟩
  · have HB4 : Hid (Below w2.heap.size w2 w4) := HB3.out.trans (h3.be.mono HB3.out.size)
    have hMk : Mk w pb sub (num sub lo0) (num sub hi0) w4 vk ks := by
      have hb : Below w.heap.size w w3 := HB2.out.trans (HB3.out.mono HB2.out.size)
      exact ⟨Nat.le_trans hb.size h3.new, fun g hg => Nat.le_trans hb.size (h3.vnew g hg), hb.trans (h3.be.mono hb.size), h3.pool⟩
    obtain ⟨lo, HLO⟩ : ∃ lo, Hid (lo = num sub lo0) := ⟨_, rfl⟩
    obtain ⟨hi, HHI⟩ : ∃ hi, Hid (hi = num sub hi0) := ⟨_, rfl⟩
    rw [← HLO.out, ← HHI.out] at hMk
    have HR4 := hid (Rl.of hMk)
    subst h1
    clear c0 c1 c2 c3 c4 c5 h2 h3 h4 HM3 hMk
    obtain ⟨c0, c1, c2, c3, c4, c5⟩ := HCL.out w4 HB4.out
    have HS4 := HSD w4 HB4.out
    simp only [decide_true] at HS4
    clear HSD
    go_wp2_with fail
    refine HS4.out.mono ?_
    rintro _ w5 ⟨rfl, hb5⟩
    have HR5 := hid (HR4.out.below hb5)
    clear c0 c1 c2 c3 c4 c5 hb5 HS4 HR4
    go_upto_region 10 with fail
    go_loopw [8] (fun i wr => ∃ (j : Nat) (ts : List R), i = .int .i64 (j : Int) ∧ j ≤ nc ∧ Hid (Rl w pb sub lo hi ks ts (.slice none 0 0) [] wr)) (fun i _ => nc - (intOf i).toNat)
    case atStart => exact ⟨0, _, rfl, Nat.zero_le _, HR5⟩
    case round =>
      obtain ⟨j, ts, rfl, hj, HR⟩ := hrel
      by_cases hjn : j < nc
      · obtain ⟨g, off, p, hao, hg, d0, d1, HPJ⟩ := (HV.out.below HR.out.be).at j hjn
        subst hao
        have HCM := hid (HR.out.claim p.1 p.2 (HCC.out p (List.mem_of_getElem? HPJ.out)))
        have b1 : (j : Int) < (nc : Int) := by omega
        clear hg
        go_wp2_with fail
        refine HCM.out.mono ?_
        rintro _ w6 ⟨c, ts', rfl, -, -, HR6⟩
        clear d0 d1 HCM
        go_wp2_with fail
        go_roundw
        case rel => exact ⟨j + 1, ts', by go_num, by omega, HR6⟩
        case measure => simp [intOf]; omega
      · have b1 : ¬ (j : Int) < (nc : Int) := by omega
        have HRM := hid HR.out.room
        obtain ⟨rm, HRM0⟩ : ∃ rm, Hid (rm = cnt ks ts lo (hi + 1)) := ⟨_, rfl⟩
        rw [← HRM0.out] at HRM
        have hrmb : rm ≤ 8589934592 := by
          have h1 := cnt_le ks ts lo (hi + 1)
          have h2 := HR.out.facts
          have := HRM0.out
          omega
        go_wp2_with fail
        refine HRM.out.mono ?_
        rintro _ w6 ⟨rfl, -, HR6⟩
        have b2 : ¬ (rm : Int) < 0 := by omega
        have HG0 : Hid (Got ks ts lo hi rm 0 []) := ⟨rfl, List.nodup_nil, fun a ha => absurd ha (by simp), by rw [HRM0.out]; rfl⟩
        clear HRM HRM0
        go_upto_region 18 with fail
        go_loopw [10, 11] (fun g k wr => ∃ (kk : Nat) (A : List Nat) (ts : List R), k = .int .i64 (kk : Int) ∧ kk ≤ rm ∧ kk ≤ 1500 ∧ Hid (Rl w pb sub lo hi ks ts g (tks sub A) wr) ∧ Hid (Got ks ts lo hi rm kk A)) (fun _ k _ => rm - (intOf k).toNat)
        case atStart => exact ⟨0, [], ts, rfl, Nat.zero_le _, by omega, HR6, HG0⟩
        case round =>
          clear HR HR6 HG0
          obtain ⟨kk, A, ts2, rfl, hk1, hk2, HR, HG⟩ := hrel
          by_cases hgo : kk < rm ∧ kk < 1500
          · obtain ⟨hg1, hg2⟩ := hgo
            have b3 : (kk : Int) < (rm : Int) := by omega
            have b4 : (kk : Int) < 1500 := by omega
            have HTK := hid HR.out.take
            go_upto_region 20 with fail
            go_wp2_with fail
            refine HTK.out.mono ?_
            rintro _ w7 (⟨a, ts3, rfl, HF7, HR7⟩ | ⟨rfl, HF7, HR7⟩)
            · obtain ⟨f1, f2, f3, f4, -, f6⟩ := HF7.out
              obtain ⟨hg', hcc⟩ := HG.out.take f1 f2 f3 f4 f6
              have HG7 := hid hg'
              obtain ⟨cc, HCC7⟩ : ∃ cc, Hid (cc = cnt ks ts3 lo (hi + 1)) := ⟨_, rfl⟩
              rw [← HCC7.out] at hcc
              obtain ⟨xb, HXB⟩ : ∃ xb, Hid (xb = w7.heap.size) := ⟨_, rfl⟩
              obtain ⟨w8, HW8⟩ : ∃ w8, Hid (w8 = w7.alloc (.cells #[.int .u32 ((adr sub a : Nat) : Int), .int .i64 (sub : Int)] 25)) := ⟨_, rfl⟩
              have hb8 : Below w7.heap.size w7 w8 := by rw [HW8.out]; exact (Below.refl _ _).alloc (Nat.le_refl _) _
              have r8 : w8.heap[xb]? = some (.cells #[.int .u32 ((adr sub a : Nat) : Int), .int .i64 (sub : Int)] 25) := by rw [HW8.out, HXB.out]; exact heap_alloc_new w7 _
              obtain ⟨q0, q1⟩ := Beh.two r8
              have HR8 := hid (HR7.out.below hb8)
              have HRM := hid HR8.out.room
              rw [← HCC7.out] at HRM
              have x1 : wrap64 ((rm : Int) - (kk : Int)) = (rm : Int) - (kk : Int) := by unfold wrap64; omega
              have x2 : wrap64 ((rm : Int) - (kk : Int) - 1) = (cc : Int) := by unfold wrap64; omega
              have x3 : (rm : Int) - (kk : Int) - 1 = (cc : Int) := by omega
              have HLT : Hid (kk + 1 ≤ rm ∧ kk + 1 ≤ 1500) := ⟨hg1, hg2⟩
              clear f1 f2 f3 f4 f6 hg' hb8 r8 HTK HF7 b3 b4
              clear hcc hg1 hg2
              go_upto_region 21 with fail
              rw [← HW8.out, ← HXB.out]
              go_wp2_with fail
              refine HRM.out.mono ?_
              rintro _ w9 ⟨rfl, HB9, HR9⟩
              have d0 := q0 ⟨w9, HB9.out⟩
              have d1 := q1 ⟨w9, HB9.out⟩
              simp only at d0 d1
              obtain ⟨w10, HW10⟩ : ∃ w10, Hid (w10 = w9.alloc (.cells #[.int .u32 ((adr sub a : Nat) : Int), .int .i64 (sub : Int)] 25)) := ⟨_, rfl⟩
              obtain ⟨hb10, hS10⟩ := sees_one HW10.out
              obtain ⟨g', w11, hap, hR11⟩ := (HR9.out.below hb10).append 26 _ _ hS10 (by have := HG.out.1; unfold tks; rw [List.length_map]; simp only [List.length_cons, List.length_nil]; omega)
              have HAP := hid hap
              have HR11 : Hid (Rl w pb sub lo hi ks ts3 g' (tks sub (A ++ [a])) w11) := by unfold Hid tks; rw [List.map_append]; exact hR11
              clear q0 q1 HRM hb10 hS10 hap hR11
              go_upto_region 19 with (at_builtin; rw [← HW10.out]; refine wpList_append_run _ rfl _ _ 26 26 rfl _ _ rfl rfl HAP.out ?_)
              go_wp2_with fail
              go_roundw
              case rel => exact ⟨kk + 1, A ++ [a], ts3, by go_num, HLT.out.1, HLT.out.2, HR11, HG7⟩
              case measure => have := HLT.out; simp [intOf]; omega
            · exfalso
              have h1 := cnt_used (a := lo) (b := hi + 1) (fun x k1 k2 => HF7.out x k1 (by omega))
              have h2 := HG.out.2.2.2
              omega
          · have HBK : Hid (Back ks ts2 lo hi rm A) := by
              obtain ⟨g1, g2, g3, g4⟩ := HG.out
              exact ⟨g2, g3, by rw [g1]; exact g4⟩
            by_cases hg1 : kk < rm
            · have b3 : (kk : Int) < (rm : Int) := int_lt hg1
              have b4 : ¬ (kk : Int) < 1500 := by omega
              have b5 : ¬ (rm : Int) ≤ 1500 := by omega
              clear hgo hg1
              go_upto_region 29 with fail
              obtain ⟨ag, ng, cg, hgv, HNG, hng1, hng2⟩ := HR.out.sees.shape
              subst hgv
              unfold maxLen at hng2
              replace HNG : Hid (ng = A.length) := by have := HNG.out; unfold tks at this; rw [List.length_map] at this; exact this
              go_loopw [16] (fun i wr => ∃ (m : Nat) (ts : List R), i = .int .i64 (m : Int) ∧ m ≤ ng ∧ Hid (Rl w pb sub lo hi ks ts (.slice ag ng cg) (tks sub A) wr) ∧ Hid (Back ks ts lo hi rm (A.drop m))) (fun i _ => ng - (intOf i).toNat)
              case atStart => exact ⟨0, ts2, rfl, Nat.zero_le _, HR, HBK⟩
              case round =>
                clear HR HBK
                obtain ⟨m, ts4, rfl, hm, HR, HBK⟩ := hrel
                obtain ⟨lf, HLF⟩ : ∃ lf, Hid (lf = cnt ks ts4 lo (hi + 1)) := ⟨_, rfl⟩
                have HRM := hid HR.out.room
                rw [← HLF.out] at HRM
                by_cases hmn : m < ng
                · have hma : m < A.length := by have := HNG.out; omega
                  obtain ⟨a, HA⟩ : ∃ a, Hid (A[m]? = some a) := ⟨_, hid (List.getElem?_eq_getElem hma)⟩
                  have HDR : Hid (A.drop m = a :: A.drop (m + 1)) := by unfold Hid; rw [List.drop_eq_getElem_cons hma, (List.getElem?_eq_some_iff.1 HA.out).2]
                  have HTS : Hid (Mem ts4 a) := by
                    have h := HBK.out
                    rw [HDR.out] at h
                    exact (h.2.1 a List.mem_cons_self).2.2.2
                  have HAD : Hid (adr sub a < 4294967296) := HR.out.facts.2.2.2.2.2.2.2 a HTS.out
                  have b5 : (m : Int) < (ng : Int) := int_lt hmn
                  have hlf : lf ≤ 8589934592 := by
                    have h1 := cnt_le ks ts4 lo (hi + 1)
                    have h2 := HR.out.facts
                    have := HLF.out
                    omega
                  clear hma
                  go_upto_region 31 with fail
                  go_wp2_with fail
                  refine HRM.out.mono ?_
                  rintro _ w7 ⟨rfl, HB7, HR7⟩
                  obtain ⟨g, off, p, hao, hg, d0, d1, HPJ⟩ := HR7.out.sees.at m hmn
                  subst hao
                  have hp : p = (adr sub a, (sub : Int)) := by
                    have h := HPJ.out
                    unfold tks at h
                    rw [List.getElem?_map, HA.out] at h
                    simpa using h.symm
                  subst hp
                  simp only at d0 d1
                  have HFR := hid (HR7.out.free (adr sub a) (sub : Int) HAD.out)
                  rw [num_adr, alg_adr] at HFR
                  clear hg HPJ HRM
                  go_upto_region 32 with fail
                  go_wp2_with fail
                  refine HFR.out.mono ?_
                  rintro _ w8 ⟨c, ts5, rfl, HF8, HR8⟩
                  obtain rfl : c = 0 := by
                    rcases HF8.out with ⟨h | h, -⟩ | ⟨-, -, h, -⟩
                    · cases h
                    · exact absurd HTS.out h
                    · exact h
                  have hm5 : ∀ m, Mem ts5 m ↔ m ≠ a ∧ Mem ts4 m := by
                    rcases HF8.out with ⟨h | h, -⟩ | ⟨-, -, -, h⟩
                    · cases h
                    · exact absurd HTS.out h
                    · exact h
                  have hbk := HBK.out
                  rw [HDR.out] at hbk
                  obtain ⟨hbk', hcn⟩ := hbk.free hm5
                  have HBK' := hid hbk'
                  have HRM8 := hid HR8.out.room
                  rw [hcn, ← HLF.out] at HRM8
                  have x1 : wrap64 ((lf : Int) + 1) = ((lf + 1 : Nat) : Int) := by unfold wrap64; omega
                  clear d0 d1 hm5 hbk hbk' hcn HFR HF8
                  go_upto_region 33 with fail
                  generalize HGL : lf + 1 = lg at HRM8 x1
                  clear HGL hlf
                  go_wp2_with fail
                  refine HRM8.out.mono ?_
                  rintro _ w9 ⟨rfl, -, HR9⟩
                  go_wp2_with fail
                  go_roundw
                  case rel => exact ⟨m + 1, ts5, by go_num, by omega, HR9, HBK'⟩
                  case measure => simp [intOf]; omega
                · have b5 : ¬ (m : Int) < (ng : Int) := int_nlt hmn
                  have e : lf = rm := by
                    have h := HBK.out
                    rw [List.drop_of_length_le (by have := HNG.out; omega)] at h
                    have h2 := h.2.2
                    rw [← HLF.out] at h2
                    simpa using h2
                  rw [e] at HRM
                  clear e HLF
                  go_wp2_with fail
                  refine HRM.out.mono ?_
                  rintro _ w7 ⟨rfl, HB7, HR7⟩
                  go_wp2_with fail
                  go_ret
                  exact ⟨ret_bool (by simp), HR7.out.be⟩
            · have b3 : ¬ (kk : Int) < (rm : Int) := int_nlt hg1
              have b5 : (rm : Int) ≤ 1500 := by omega
              have hz : cnt ks ts2 lo (hi + 1) = 0 := by
                have := HG.out.2.2.2
                omega
              have HZ := hid hz
              have HTK := hid HR.out.take
              clear hgo hg1 hz
              go_upto_region 25 with fail
              go_wp2_with fail
              refine HTK.out.mono ?_
              rintro _ w7 (⟨a, ts3, rfl, HF7, HR7⟩ | ⟨rfl, HF7, HR7⟩)
              · exfalso
                obtain ⟨f1, f2, f3, f4, -, f6⟩ := HF7.out
                have h := cnt_one f1 f2 f3 f4 f6
                have := HZ.out
                omega
              · obtain ⟨xb, HXB⟩ : ∃ xb, Hid (xb = w7.heap.size) := ⟨_, rfl⟩
                obtain ⟨w8, HW8⟩ : ∃ w8, Hid (w8 = w7.alloc (.cells #[.int .u32 0, .int .i64 0] 25)) := ⟨_, rfl⟩
                have hb8 : Below w7.heap.size w7 w8 := by rw [HW8.out]; exact (Below.refl _ _).alloc (Nat.le_refl _) _
                have r8 : w8.heap[xb]? = some (.cells #[.int .u32 0, .int .i64 0] 25) := by rw [HW8.out, HXB.out]; exact heap_alloc_new w7 _
                obtain ⟨q0, q1⟩ := Beh.two r8
                have d0 := q0 ⟨w8, Below.refl _ _⟩
                have d1 := q1 ⟨w8, Below.refl _ _⟩
                simp only at d0 d1
                have HR8 := hid (HR7.out.below hb8)
                clear q0 q1 r8 hb8 HR HTK b3
                go_upto_region 26 with fail
                rw [← HW8.out, ← HXB.out]
                go_upto_region 28 with fail
                clear d0 d1 b5
                have HR := HR8
                go_upto_region 29 with fail
                obtain ⟨ag, ng, cg, hgv, HNG, hng1, hng2⟩ := HR.out.sees.shape
                subst hgv
                unfold maxLen at hng2
                replace HNG : Hid (ng = A.length) := by have := HNG.out; unfold tks at this; rw [List.length_map] at this; exact this
                go_loopw [16] (fun i wr => ∃ (m : Nat) (ts : List R), i = .int .i64 (m : Int) ∧ m ≤ ng ∧ Hid (Rl w pb sub lo hi ks ts (.slice ag ng cg) (tks sub A) wr) ∧ Hid (Back ks ts lo hi rm (A.drop m))) (fun i _ => ng - (intOf i).toNat)
                case atStart => exact ⟨0, ts2, rfl, Nat.zero_le _, HR, HBK⟩
                case round =>
                  clear HR HBK
                  obtain ⟨m, ts4, rfl, hm, HR, HBK⟩ := hrel
                  obtain ⟨lf, HLF⟩ : ∃ lf, Hid (lf = cnt ks ts4 lo (hi + 1)) := ⟨_, rfl⟩
                  have HRM := hid HR.out.room
                  rw [← HLF.out] at HRM
                  by_cases hmn : m < ng
                  · have hma : m < A.length := by have := HNG.out; omega
                    obtain ⟨a, HA⟩ : ∃ a, Hid (A[m]? = some a) := ⟨_, hid (List.getElem?_eq_getElem hma)⟩
                    have HDR : Hid (A.drop m = a :: A.drop (m + 1)) := by unfold Hid; rw [List.drop_eq_getElem_cons hma, (List.getElem?_eq_some_iff.1 HA.out).2]
                    have HTS : Hid (Mem ts4 a) := by
                      have h := HBK.out
                      rw [HDR.out] at h
                      exact (h.2.1 a List.mem_cons_self).2.2.2
                    have HAD : Hid (adr sub a < 4294967296) := HR.out.facts.2.2.2.2.2.2.2 a HTS.out
                    have b5 : (m : Int) < (ng : Int) := int_lt hmn
                    have hlf : lf ≤ 8589934592 := by
                      have h1 := cnt_le ks ts4 lo (hi + 1)
                      have h2 := HR.out.facts
                      have := HLF.out
                      omega
                    clear hma
                    go_upto_region 31 with fail
                    go_wp2_with fail
                    refine HRM.out.mono ?_
                    rintro _ w7 ⟨rfl, HB7, HR7⟩
                    obtain ⟨g, off, p, hao, hg, d0, d1, HPJ⟩ := HR7.out.sees.at m hmn
                    subst hao
                    have hp : p = (adr sub a, (sub : Int)) := by
                      have h := HPJ.out
                      unfold tks at h
                      rw [List.getElem?_map, HA.out] at h
                      simpa using h.symm
                    subst hp
                    simp only at d0 d1
                    have HFR := hid (HR7.out.free (adr sub a) (sub : Int) HAD.out)
                    rw [num_adr, alg_adr] at HFR
                    clear hg HPJ HRM
                    go_upto_region 32 with fail
                    go_wp2_with fail
                    refine HFR.out.mono ?_
                    rintro _ w8 ⟨c, ts5, rfl, HF8, HR8⟩
                    obtain rfl : c = 0 := by
                      rcases HF8.out with ⟨h | h, -⟩ | ⟨-, -, h, -⟩
                      · cases h
                      · exact absurd HTS.out h
                      · exact h
                    have hm5 : ∀ m, Mem ts5 m ↔ m ≠ a ∧ Mem ts4 m := by
                      rcases HF8.out with ⟨h | h, -⟩ | ⟨-, -, -, h⟩
                      · cases h
                      · exact absurd HTS.out h
                      · exact h
                    have hbk := HBK.out
                    rw [HDR.out] at hbk
                    obtain ⟨hbk', hcn⟩ := hbk.free hm5
                    have HBK' := hid hbk'
                    have HRM8 := hid HR8.out.room
                    rw [hcn, ← HLF.out] at HRM8
                    have x1 : wrap64 ((lf : Int) + 1) = ((lf + 1 : Nat) : Int) := by unfold wrap64; omega
                    clear d0 d1 hm5 hbk hbk' hcn HFR HF8
                    go_upto_region 33 with fail
                    generalize HGL : lf + 1 = lg at HRM8 x1
                    clear HGL hlf
                    go_wp2_with fail
                    refine HRM8.out.mono ?_
                    rintro _ w9 ⟨rfl, -, HR9⟩
                    go_wp2_with fail
                    go_roundw
                    case rel => exact ⟨m + 1, ts5, by go_num, by omega, HR9, HBK'⟩
                    case measure => simp [intOf]; omega
                  · have b5 : ¬ (m : Int) < (ng : Int) := int_nlt hmn
                    have e : lf = rm := by
                      have h := HBK.out
                      rw [List.drop_of_length_le (by have := HNG.out; omega)] at h
                      have h2 := h.2.2
                      rw [← HLF.out] at h2
                      simpa using h2
                    rw [e] at HRM
                    clear e HLF
                    go_wp2_with fail
                    refine HRM.out.mono ?_
                    rintro _ w7 ⟨rfl, HB7, HR7⟩
                    go_wp2_with fail
                    go_ret
                    exact ⟨ret_bool (by simp), HR7.out.be⟩
end Go.Proofs.Ytahoileampdnkaa
