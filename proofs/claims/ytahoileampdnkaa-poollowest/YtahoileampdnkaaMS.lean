/-
  PoolLowest.
-/
import Derived.Test.YtahoileampdnkaaMJG
import Derived.Test.YtahoileampdnkaaMR
import Derived.Test.YtahoileampdnkaaMEO
namespace Go.Proofs.Ytahoileampdnkaa
open Go.ChangeShapes Go.WideShapes Go.ChangeAt Go.RowKit Ru N Tri
set_option maxHeartbeats 4000000
set_option maxRecDepth 100000

theorem newE_zero {x lo hi : Nat} {y s : Int} {L : List (Nat × Int)} (h : newE x y s lo hi L = 0) : L.length ≤ 1024 ∧ ck x y s lo hi = 0 ∧ keE x y s.toNat [] L = 0 := by
  unfold newE at h
  split at h
  · cases h
  · split at h
    · rename_i h1 h2; exact absurd h h2
    · rename_i h1 h2
      refine ⟨by omega, by simpa using h2, h⟩

theorem val_adr {sub x : Nat} (h : valB x (sub : Int) = true) : adr sub (num sub x) = x := by
  unfold valB at h
  rw [decide_eq_true_eq, Int.toNat_natCast] at h
  unfold adr num
  exact Nat.div_mul_cancel (Nat.dvd_of_mod_eq_zero h.2.2)

/-- What a pool that may be is made of. -/
structure Fit (sub lo hi lo0 hi0 : Nat) (L : List (Nat × Int)) (ks : List R) : Prop where
  lo : adr sub lo = lo0
  hi : adr sub hi = hi0
  le : lo0 ≤ hi0
  al : ∀ p ∈ L, alg sub p.1 p.2 = true
  nd : (L.map fun p => num sub p.1).Nodup
  km : ∀ m, Mem ks m ↔ m ∈ L.map fun p => num sub p.1
  sm : L.length ≤ 1024

theorem Fit.of {x lo0 hi0 sub : Nat} {y : Int} {L : List (Nat × Int)} {ks : List R} (h : newE x y (sub : Int) lo0 hi0 L = 0) (hk : ∀ m, Mem ks m ↔ m ∈ L.map fun p => num sub p.1) : Fit sub (num sub lo0) (num sub hi0) lo0 hi0 L ks := by
  obtain ⟨h1, h2, h3⟩ := newE_zero h
  rw [Int.toNat_natCast] at h3
  obtain ⟨_, _, _, k4, k5, k6, _, _⟩ := ck_zero h2
  obtain ⟨j1, j2, _⟩ := keE_zero h3
  exact ⟨val_adr k5, val_adr k6, k4, j1, j2, hk, h1⟩

theorem Fit.rows {sub lo hi lo0 hi0 : Nat} {L : List (Nat × Int)} {ks : List R} (h : Fit sub lo hi lo0 hi0 L ks) : (hi0 - lo0) / 2 ^ (32 - sub) = hi - lo := by
  rw [← h.lo, ← h.hi]
  unfold adr
  rw [← Nat.sub_mul]
  exact Nat.mul_div_cancel _ (Nat.two_pow_pos _)

theorem int_sub {a b : Nat} (h : b ≤ a) : ((a - b : Nat) : Int) = (a : Int) - (b : Int) := by omega
theorem tdiv_nat (a b : Nat) : (a : Int).tdiv (b : Int) = ((a / b : Nat) : Int) := rfl

theorem lowest_walk (q : Sp) (v : Value) (S : List Stp) (w : World) (hq : q.Ok w) (hv : SeesO w v S) (hC : ∀ p ∈ S, p.a < 4294967296) (hbS : S.length * 32 ≤ 140737488351232) :
    Calls Try.prog 5 #[.agg q.cells, v] w fun e w' => e = .returned (.bool true) ∧ Below w.heap.size w w' := by
  obtain ⟨x, y, s, lo0, hi0, kv, L⟩ := q
  obtain ⟨ak, nk, ck0, hkv, HNK, hk1, hk2⟩ := hq.kv.shape
  simp only at hkv
  subst hkv
  obtain ⟨ac, cc0, rfl, hc1, hc2, hsc⟩ := hv
  obtain ⟨nc, HNC⟩ : ∃ nc, Hid (nc = S.length) := ⟨_, rfl⟩
  rw [← HNC.out] at hc1 ⊢
  obtain ⟨w2, HW2⟩ : ∃ w2, Hid (w2 = w.alloc (.cells #[.int .u32 (x : Int), .int .i64 y, .int .i64 s, .int .u32 (lo0 : Int), .int .u32 (hi0 : Int), .slice ak nk ck0] 28)) := ⟨_, rfl⟩
  have hb2 : Below w.heap.size w w2 := by rw [HW2.out]; exact (Below.refl _ _).alloc (Nat.le_refl _) _
  have r2 : w2.heap[w.heap.size]? = some (.cells #[.int .u32 (x : Int), .int .i64 y, .int .i64 s, .int .u32 (lo0 : Int), .int .u32 (hi0 : Int), .slice ak nk ck0] 28 (0, 0)) := by rw [HW2.out]; exact heap_alloc_new w _
  obtain ⟨sb, HSB⟩ : ∃ sb, Hid (sb = w.heap.size) := ⟨_, rfl⟩
  rw [← HSB.out] at r2
  have HCL : Hid (∀ u : World, Below w2.heap.size w2 u → u.cell? ⟨sb, 0, none⟩ = some (.int .u32 (x : Int)) ∧ u.cell? ⟨sb, 1, none⟩ = some (.int .i64 y) ∧ u.cell? ⟨sb, 2, none⟩ = some (.int .i64 s) ∧ u.cell? ⟨sb, 3, none⟩ = some (.int .u32 (lo0 : Int)) ∧ u.cell? ⟨sb, 4, none⟩ = some (.int .u32 (hi0 : Int)) ∧ u.cell? ⟨sb, 5, none⟩ = some (.slice ak nk ck0)) := fun u hu => by
    have hr := below_keeps hu r2 (Array.getElem?_eq_some_iff.1 r2).1
    refine ⟨?_, ?_, ?_, ?_, ?_, ?_⟩ <;> (rw [cell_of_row _ _ _ _ _ _ hr]; rfl)
  have HB2 := hid hb2
  have HBE := hid (begun_any w2)
  have HV := hid hsc
  have HCC := hid hC
  have HSZ := hid hbS
  have HQX := hid hq
  have HSP : Hid (∀ u : World, Below w2.heap.size w2 u → Sp.Ok u ⟨x, y, s, lo0, hi0, .slice ak nk ck0, L⟩) := fun u hu => (hq.below HB2.out).below hu
  obtain ⟨ee, HEE⟩ : ∃ ee, Hid (ee = newE x y s lo0 hi0 L) := ⟨_, rfl⟩
  have HMD : ∀ u : World, Below w2.heap.size w2 u → Hid (Calls Try.prog 10 #[.agg #[.int .u32 (x : Int), .int .i64 y, .int .i64 s, .int .u32 (lo0 : Int), .int .u32 (hi0 : Int), .slice ak nk ck0]] u (News u x y s lo0 hi0 L)) := fun u hu => hid (made_any ⟨x, y, s, lo0, hi0, .slice ak nk ck0, L⟩ u (HSP.out u hu))
  have HSD : ∀ u : World, Below w2.heap.size w2 u → Hid (Calls Try.prog 11 #[.agg #[.int .u32 (x : Int), .int .i64 y, .int .i64 s, .int .u32 (lo0 : Int), .int .u32 (hi0 : Int), .slice ak nk ck0]] u fun e w' => e = .returned (.bool (decide (ee = 0))) ∧ Below u.heap.size u w') := fun u hu => by
    rw [HEE.out]; exact hid (sound_any ⟨x, y, s, lo0, hi0, .slice ak nk ck0, L⟩ u (HSP.out u hu))
  unfold News at HMD
  rw [← HEE.out] at HMD
  unfold Sp.cells
  simp only
  unfold maxLen at hc2
  clear hq hsc hC hbS hb2 r2 hk1 hk2
  go_enter Try.func5, Try.ntmps5
  go_upto_region 1 with fail
  rw [← HW2.out, ← HSB.out]
  go_wp2_with fail
  refine HBE.out.mono ?_
  rintro _ w3 ⟨rfl, hb3⟩
  have HB3 := hid hb3
  obtain ⟨c0, c1, c2, c3, c4, c5⟩ := HCL.out w3 hb3
  have HM3 := HMD w3 hb3
  clear hb3 HBE HMD
  go_wp2_with fail
  refine HM3.out.mono ?_
  rintro e w4 (⟨h1, rfl, h3⟩ | ⟨h1, pb, sub, vk, ks, h2, rfl, h3, h4⟩)
  · have HB4 : Hid (Below w2.heap.size w2 w4) := HB3.out.trans (h3.mono HB3.out.size)
    clear c0 c1 c2 c3 c4 c5 h3 HM3
    obtain ⟨c0, c1, c2, c3, c4, c5⟩ := HCL.out w4 HB4.out
    have HS4 := HSD w4 HB4.out
    have hd : decide (ee = 0) = false := by simp [h1]
    rw [hd] at HS4
    have hd2 : (ee == 0) = false := by simp [h1]
    clear HSD hd
    go_wp2_with fail
    refine HS4.out.mono ?_
    rintro _ w5 ⟨rfl, hb5⟩
    have HB5 : Hid (Below w.heap.size w w5) := HB2.out.trans ((HB4.out.trans (hb5.mono HB4.out.size)).mono HB2.out.size)
    clear c0 c1 c2 c3 c4 c5 hb5 HS4
    go_wp2_with fail
    go_ret
    exact ⟨ret_bool (by simp [h1]), HB5.out⟩
  · have HB4 : Hid (Below w2.heap.size w2 w4) := HB3.out.trans (h3.be.mono HB3.out.size)
    have hMk : Mk w2 pb sub (num sub lo0) (num sub hi0) w4 vk ks :=
      ⟨Nat.le_trans HB3.out.size h3.new, fun g hg => Nat.le_trans HB3.out.size (h3.vnew g hg), HB4.out, h3.pool⟩
    obtain ⟨lo, HLO⟩ : ∃ lo, Hid (lo = num sub lo0) := ⟨_, rfl⟩
    obtain ⟨hi, HHI⟩ : ∃ hi, Hid (hi = num sub hi0) := ⟨_, rfl⟩
    rw [← HLO.out, ← HHI.out] at hMk
    have HR4 := hid (Rl.of hMk)
    subst h1 h2
    have HFT : Hid (Fit sub lo hi lo0 hi0 L ks) := by
      rw [HLO.out, HHI.out]
      exact hid (Fit.of HEE.out.symm h4)
    clear c0 c1 c2 c3 c4 c5 h3 h4 HM3 hMk
    obtain ⟨c0, c1, c2, c3, c4, c5⟩ := HCL.out w4 HB4.out
    have HS4 := HSD w4 HB4.out
    simp only [decide_true] at HS4
    clear HSD
    go_wp2_with fail
    refine HS4.out.mono ?_
    rintro _ w5 ⟨rfl, hb5⟩
    have HR5 := hid (HR4.out.below hb5)
    clear c0 c1 c2 c3 c4 c5 hb5 HS4 HR4
    obtain ⟨c0, c1, c2, c3, c4, c5⟩ := HCL.out w5 HR5.out.be
    have hs32 : sub ≤ 32 := HR5.out.facts.2.2.1
    have k3 : ¬ (32 : Int) < (sub : Int) := by omega
    have hx0 : lo0 < 4294967296 := HQX.out.lo
    have hx1 : hi0 < 4294967296 := HQX.out.hi
    go_upto_region 10 with fail
    have e2 : wrap64 ((2 : Int) ^ (32 - sub)) = ((2 ^ (32 - sub) : Nat) : Int) := by
      have h : ((2 : Int) ^ (32 - sub)) = ((2 ^ (32 - sub) : Nat) : Int) := by simp
      rw [h]; exact wrap_nat' (pow_le32 sub)
    rw [e2]
    clear e2
    have hS1 := Nat.two_pow_pos (32 - sub)
    have hS2 := pow_le32 sub
    obtain ⟨Z, HZZ⟩ : ∃ Z, Hid (Z = 2 ^ (32 - sub)) := ⟨_, hid rfl⟩
    rw [← HZZ.out] at hS1 hS2 ⊢
    have i2 : ¬ (Z : Int) = 0 := int_ne (Nat.ne_of_gt hS1)
    have wl : wrap64 (lo0 : Int) = (lo0 : Int) := wrap_nat' (Nat.le_of_lt hx0)
    have wh : wrap64 (hi0 : Int) = (hi0 : Int) := wrap_nat' (Nat.le_of_lt hx1)
    have HDD := hid HFT.out.rows
    rw [← HZZ.out] at HDD
    have hle := HFT.out.le
    obtain ⟨df, HDF⟩ : ∃ df, Hid (df = hi0 - lo0) := ⟨_, rfl⟩
    have w1 : (hi0 : Int) - (lo0 : Int) = (df : Int) := by have := HDF.out; omega
    have w2' : wrap64 ((hi0 : Int) - (lo0 : Int)) = (df : Int) := by rw [w1]; exact wrap_nat' (by have := HDF.out; omega)
    obtain ⟨dd, HD2⟩ : ∃ dd, Hid (dd = hi - lo) := ⟨_, rfl⟩
    have w3' : (df : Int).tdiv (Z : Int) = (dd : Int) := by rw [tdiv_nat, HDF.out, HDD.out, HD2.out]
    have hdd : dd < 4294967296 := by have := HR5.out.facts.2.2.2.1; have := HD2.out; omega
    obtain ⟨ct, HCT⟩ : ∃ ct, Hid (ct = dd + 1) := ⟨_, rfl⟩
    have ect : (dd : Int) + 1 = (ct : Int) := by have := HCT.out; omega
    have HCE := hid ect
    clear c0 c1 c5 ect
    go_upto_region 13 with fail
    rw [HCE.out]
    have HX := hid (And.intro hx0 (And.intro hx1 (And.intro hS1 (And.intro hS2 (And.intro hle hdd)))))
    have HWL := hid (And.intro wl wh)
    clear c2 c3 c4 w1 w2' w3' hle hdd k3 wl wh i2 hx0 hx1 hS1 hS2 hs32
    have HKV : Hid (∀ u : World, Below w2.heap.size w2 u → Sees u (.slice ak nk ck0) L) := fun u hu => (HSP.out u hu).kv
    have HLL : Hid (∀ p ∈ L, p.1 < 4294967296) := HQX.out.ls
    go_loopw [10, 11] (fun g i wr => ∃ (j : Nat) (N : List Nat) (ts : List R), i = .int .i64 (j : Int) ∧ j ≤ nc ∧ Hid (Rl w2 pb sub lo hi ks ts g (tks sub N) wr) ∧ Hid (Outs ts N) ∧ Hid (N.length ≤ j)) (fun _ i _ => nc - (intOf i).toNat)
    case atStart => exact ⟨0, [], [], rfl, Nat.zero_le _, HR5, hid ⟨List.nodup_nil, fun m => ⟨fun h => absurd h (by simp), fun h => absurd h mem_nil⟩⟩, Nat.zero_le _⟩
    case round =>
      clear HR5
      obtain ⟨j, N, ts, rfl, hj, HR, HO, HNL⟩ := hrel
      by_cases hjn : j < nc
      · have hjl : j < S.length := by have := HNC.out; omega
        have HSJ : Hid (j + 1 ≤ nc ∧ nc * 32 ≤ 140737488351232) := ⟨hjn, by rw [HNC.out]; exact HSZ.out⟩
        have HLN1 : Hid (L.length * 16 ≤ 140737488351232) := by have := HFT.out.sm; unfold Hid; omega
        have HLN2 : Hid ((tks sub N).length * 16 ≤ 140737488351232) := by unfold Hid tks; rw [List.length_map]; have := HNL.out; have := HSJ.out; omega
        have HLN3 : Hid (((tks sub N).length + 1) * 16 ≤ 140737488355328) := by unfold Hid tks; rw [List.length_map]; have := HNL.out; have := HSJ.out; omega
        have HOLT : Hid (∀ p ∈ tks sub N, p.1 < 4294967296) := fun p hp => by obtain ⟨m, hm, rfl⟩ := List.mem_map.1 hp; exact HR.out.facts.2.2.2.2.2.2.2 m ((HO.out.2 m).1 hm)
        obtain ⟨g, off, e, hg, d0, d1, d2, d3⟩ := HV.out j hjl
        subst e
        have hbw : Below w.heap.size w wr := HB2.out.trans (HR.out.be.mono HB2.out.size)
        rw [← hbw.cell (p := ⟨g, _, none⟩) hg] at d0 d1 d2 d3
        have hoa := HCC.out S[j] (List.getElem_mem hjl)
        generalize S[j] = o at *
        obtain ⟨okk, oo, oa, ol⟩ := o
        simp only at d0 d1 d2 d3 hoa
        have HOA := hid hoa
        obtain ⟨ob, HOB'⟩ : ∃ ob, Hid (ob = wr.heap.size) := ⟨_, rfl⟩
        obtain ⟨w4, HW4⟩ : ∃ w4, Hid (w4 = wr.alloc (.cells #[.int .i64 okk, .int .i64 oo, .int .u32 (oa : Int), .int .i64 ol] 46)) := ⟨_, rfl⟩
        have hb4 : Below wr.heap.size wr w4 := by rw [HW4.out]; exact (Below.refl _ _).alloc (Nat.le_refl _) _
        have r4 : w4.heap[ob]? = some (.cells #[.int .i64 okk, .int .i64 oo, .int .u32 (oa : Int), .int .i64 ol] 46 (0, 0)) := by rw [HW4.out, HOB'.out]; exact heap_alloc_new wr _
        have R4 := hid r4
        have HR4 := hid (HR.out.below hb4)
        have HOB : Hid (∀ u : World, u.heap[ob]? = some (.cells #[.int .i64 okk, .int .i64 oo, .int .u32 (oa : Int), .int .i64 ol] 46 (0, 0)) → u.cell? ⟨ob, 0, none⟩ = some (.int .i64 okk) ∧ u.cell? ⟨ob, 2, none⟩ = some (.int .u32 (oa : Int)) ∧ u.cell? ⟨ob, 3, none⟩ = some (.int .i64 ol)) := fun u hr => by
          refine ⟨?_, ?_, ?_⟩ <;> (rw [cell_of_row _ _ _ _ _ _ hr]; rfl)
        obtain ⟨f0, f2, f3⟩ := HOB.out w4 r4
        have b1 : (j : Int) < (nc : Int) := int_lt hjn
        clear hg hbw hoa hb4 r4 hjl f2 f3
        go_upto_region 16 with fail
        rw [← HW4.out, ← HOB'.out]
        clear d0 d1 d2 d3
        go_upto_region 17 with fail
        clear f0
        by_cases k1 : okk = 1
        · subst k1
          as_aux_lemma =>
            have HTK := hid HR4.out.takeK
            go_upto_region 18 with fail
            go_wp2_with fail
            refine HTK.out.mono ?_
            rintro _ w6 (⟨a, ts', rfl, HF6, HR6, -⟩ | ⟨rfl, HF6, HR6, -⟩)
            · skip
              as_aux_lemma =>
                obtain ⟨aa, HAA⟩ : ∃ aa, Hid (aa = adr sub a) := ⟨_, rfl⟩
                rw [← HAA.out]
                obtain ⟨xb, HXB⟩ : ∃ xb, Hid (xb = w6.heap.size) := ⟨_, rfl⟩
                obtain ⟨w7, HW7⟩ : ∃ w7, Hid (w7 = w6.alloc (.cells #[.int .u32 (aa : Int), .int .i64 (sub : Int)] 25)) := ⟨_, rfl⟩
                have hb7 : Below w6.heap.size w6 w7 := by rw [HW7.out]; exact (Below.refl _ _).alloc (Nat.le_refl _) _
                have r7 : w7.heap[xb]? = some (.cells #[.int .u32 (aa : Int), .int .i64 (sub : Int)] 25 (0, 0)) := by rw [HW7.out, HXB.out]; exact heap_alloc_new w6 _
                have HR7 := hid (HR6.out.below hb7)
                obtain ⟨q0, q1⟩ := Beh.two r7
                have haa : aa < 4294967296 := by
                  rw [HAA.out]
                  exact Nat.lt_of_le_of_lt (adr_mono HF6.out.2.1) HR6.out.facts.2.2.2.2.2.1
                have ta : (aa : Int).tmod (Z : Int) = 0 := by
                  rw [tmod_nat, HAA.out, HZZ.out]; unfold adr; rw [Nat.mul_mod_left]; rfl
                have hlo1 : ¬ aa < lo0 := by rw [HAA.out, ← HFT.out.lo, adr_lt]; exact Nat.not_lt.2 HF6.out.1
                have hhi1 : ¬ hi0 < aa := by rw [HAA.out, ← HFT.out.hi, adr_lt]; exact Nat.not_lt.2 HF6.out.2.1
                have g1 : ¬ (aa : Int) < (lo0 : Int) := int_nlt hlo1
                have g2 : ¬ (hi0 : Int) < (aa : Int) := int_nlt hhi1
                obtain ⟨-, -, c2, c3, c4, -⟩ := HCL.out w7 HR7.out.be
                have x0 := q0 ⟨w7, Below.refl _ _⟩
                have x1 := q1 ⟨w7, Below.refl _ _⟩
                simp only at x0 x1
                have HH1 := hid (has_any _ (tks sub N) aa (sub : Int) w7 HR7.out.sees)
                have hf1 : decide ((aa, (sub : Int)) ∈ tks sub N) = false := by
                  rw [decide_eq_false_iff_not, tks_mem, HAA.out, num_adr]
                  exact fun h => HF6.out.2.2.2.1 ((HO.out.2 a).1 h.2)
                rw [hf1] at HH1
                have HH2 : ∀ u, Below w7.heap.size w7 u → Hid (Calls Try.prog 16 #[.slice ak nk ck0, .agg #[.int .u32 (aa : Int), .int .i64 (sub : Int)]] u fun e w' => e = .returned (.bool false) ∧ Below u.heap.size u w') := fun u hu => by
                  have h := has_any _ L aa (sub : Int) u (HKV.out u (HR7.out.be.trans (hu.mono HR7.out.be.size)))
                  rw [show decide ((aa, (sub : Int)) ∈ L) = false by rw [decide_eq_false_iff_not, kept_mem HFT.out.al, HAA.out, num_adr]; exact fun h => HF6.out.2.2.1 ((HFT.out.km a).2 h.2)] at h
                  exact h
                have i2 : ¬ (Z : Int) = 0 := int_ne (Nat.ne_of_gt HX.out.2.2.1)
                have wa : wrap64 (aa : Int) = (aa : Int) := wrap_nat' (Nat.le_of_lt haa)
                have HAB := hid haa
                obtain ⟨wl, wh⟩ := HWL.out
                clear hf1 hb7 r7 HTK hlo1 hhi1 haa
                go_upto_region 19 with fail
                rw [← HW7.out, ← HXB.out]
                as_aux_lemma =>
                  go_wp2_with fail
                  refine HH1.out.mono ?_
                  rintro _ w8 ⟨rfl, hb8⟩
                  as_aux_lemma =>
                    have HB8 := hid hb8
                    have HH28 := HH2 w8 hb8
                    obtain ⟨-, -, -, -, -, c5⟩ := HCL.out w8 (HR7.out.be.trans (hb8.mono HR7.out.be.size))
                    have y0 := q0 ⟨w8, hb8⟩
                    have y1 := q1 ⟨w8, hb8⟩
                    simp only at y0 y1
                    clear hb8 HH1 HH2
                    go_wp2_with fail
                    refine HH28.out.mono ?_
                    rintro _ w9 ⟨rfl, hb9⟩
                    as_aux_lemma =>
                      have hb79 : Below w7.heap.size w7 w9 := HB8.out.trans (hb9.mono HB8.out.size)
                      have HB79 := hid hb79
                      have HR9 := hid (HR7.out.below hb79)
                      clear hb9 hb79 HH28 HB8
                      go_upto_region 25 with fail
                      clear c2 c3 c4 c5 x0 x1 y0 y1 ta g1 g2
                      as_aux_lemma =>
                        have HC9 : ∀ t : Beh w9, t.wd.cell? ⟨sb, 3, none⟩ = some (.int .u32 (lo0 : Int)) ∧ t.wd.cell? ⟨sb, 5, none⟩ = some (.slice ak nk ck0) := fun t => by
                          obtain ⟨-, -, -, z3, -, z5⟩ := HCL.out t.wd (HR9.out.be.trans (t.ok.mono HR9.out.be.size))
                          exact ⟨z3, z5⟩
                        have hc3 : ∀ t : Beh w9, t.wd.cell? ⟨sb, 3, none⟩ = some (.int .u32 (lo0 : Int)) := fun t => (HC9 t).1
                        have hc5 : ∀ t : Beh w9, t.wd.cell? ⟨sb, 5, none⟩ = some (.slice ak nk ck0) := fun t => (HC9 t).2
                        obtain ⟨bl, HBLE⟩ : ∃ bl, Hid (bl = a - lo) := ⟨_, rfl⟩
                        obtain ⟨da, HDA⟩ : ∃ da, Hid (da = aa - lo0) := ⟨_, rfl⟩
                        have HBL : ∀ t : Beh w9, Hid (Calls Try.prog 19 #[.slice ak nk ck0, u10, .int .i64 (lo0 : Int), .int .i64 (aa : Int)] t.wd fun e w' => e = .returned (.int .i64 (bl : Int)) ∧ ∃ t' : Beh w9, w' = t'.wd) := fun t => by
                          have h := below_any _ _ L (tks sub N) lo0 aa t.wd (HKV.out _ (HR9.out.be.trans (t.ok.mono HR9.out.be.size))) (HR9.out.sees.below t.ok) HLL.out (HOLT.out) HLN1.out (HLN2.out)
                          rw [show bel L (tks sub N) lo0 aa = bl by rw [HBLE.out, HAA.out, ← HFT.out.lo]; exact bel_full HFT.out.al HFT.out.nd HFT.out.km HO.out.1 HO.out.2 (fun m => adr_lt) HF6.out.2.2.2.2.1] at h
                          exact Calls.beh h
                        have v3 : (da : Int).tdiv (Z : Int) = (bl : Int) := by
                          rw [tdiv_nat, HDA.out, HAA.out, ← HFT.out.lo, HBLE.out, HZZ.out]
                          unfold adr
                          rw [← Nat.sub_mul, Nat.mul_div_cancel _ (Nat.two_pow_pos _)]
                        have hge : lo0 ≤ aa := by rw [HAA.out, ← HFT.out.lo, adr_le]; exact HF6.out.1
                        have v1 : (aa : Int) - (lo0 : Int) = (da : Int) := by rw [HDA.out]; exact (int_sub hge).symm
                        have v2 : wrap64 (da : Int) = (da : Int) := wrap_nat' (by rw [HDA.out]; exact Nat.le_trans (Nat.sub_le _ _) (Nat.le_of_lt HAB.out))
                        have v5 : wrap64 (bl : Int) = (bl : Int) := wrap_nat' (by rw [HBLE.out]; exact Nat.le_trans (Nat.sub_le _ _) (Nat.le_trans HF6.out.2.1 (Nat.le_of_lt HR.out.facts.2.2.2.1)))
                        have v4 : ((aa : Int) - (lo0 : Int)).tdiv (Z : Int) = (bl : Int) := by rw [v1]; exact v3
                        clear hge HC9
                        refine wp_region_beh (by kernel_rfl) (by kernel_rfl) ?_
                        repeat (go_big_quiet_step (first | (go_at_call 19; exact (HBL _).out)))
                        refine wpQuiet_nil ?_
                        rintro _ ⟨t, rfl⟩
                        clear v1 v2 v3 v4 v5 HBL hc3 hc5 wa wl wh i2
                        as_aux_lemma =>
                          go_upto_region 27 with fail
                          as_aux_lemma =>
                            have x0 := q0 ⟨t.wd, HB79.out.trans (t.ok.mono HB79.out.size)⟩
                            have x1 := q1 ⟨t.wd, HB79.out.trans (t.ok.mono HB79.out.size)⟩
                            simp only at x0 x1
                            obtain ⟨w10, HW10⟩ : ∃ w10, Hid (w10 = t.wd.alloc (.cells #[.int .u32 (aa : Int), .int .i64 (sub : Int)] 25)) := ⟨_, rfl⟩
                            obtain ⟨hb10, hS10⟩ := sees_one HW10.out
                            obtain ⟨g', w11, hap, hR11⟩ := ((HR9.out.below t.ok).below hb10).append 26 _ _ hS10 (HLN3.out)
                            have HAP := hid hap
                            have HR11 : Hid (Rl w2 pb sub lo hi ks ts' g' (tks sub (N ++ [a])) w11) := by unfold Hid tks; rw [List.map_append]; rw [HAA.out] at hR11; exact hR11
                            have HO2 := hid (HO.out.add HF6.out.2.2.2.1 HF6.out.2.2.2.2.2)
                            have HNL2 : Hid ((N ++ [a]).length ≤ j + 1) := by unfold Hid; rw [List.length_append]; exact Nat.add_le_add_right HNL.out 1
                            clear q0 q1 hb10 hS10 hap hR11
                            go_upto_region 14 with (at_builtin; rw [← HW10.out]; refine wpList_append_run _ rfl _ _ 26 26 rfl _ _ rfl rfl HAP.out ?_)
                            go_wp2_with fail
                            go_roundw
                            case rel => exact ⟨j + 1, N ++ [a], ts', by go_num, hjn, HR11, HO2, HNL2⟩
                            case measure => simp [intOf]; omega
            · skip
              as_aux_lemma =>
                obtain ⟨xb, HXB⟩ : ∃ xb, Hid (xb = w6.heap.size) := ⟨_, rfl⟩
                obtain ⟨w7, HW7⟩ : ∃ w7, Hid (w7 = w6.alloc (.cells #[.int .u32 0, .int .i64 0] 25)) := ⟨_, rfl⟩
                have hb7 : Below w6.heap.size w6 w7 := by rw [HW7.out]; exact (Below.refl _ _).alloc (Nat.le_refl _) _
                have r7 : w7.heap[xb]? = some (.cells #[.int .u32 0, .int .i64 0] 25 (0, 0)) := by rw [HW7.out, HXB.out]; exact heap_alloc_new w6 _
                have HR7 := hid (HR6.out.below hb7)
                have x0 : w7.cell? ⟨xb, 0, none⟩ = some (.int .u32 0) := by rw [cell_of_row _ _ _ _ _ _ r7]; rfl
                obtain ⟨-, -, -, c3, c4, c5⟩ := HCL.out w7 HR7.out.be
                obtain ⟨h1, HH1⟩ : ∃ h1, Hid (h1 = hi0 + 1) := ⟨_, rfl⟩
                have v1 : (hi0 : Int) + 1 = (h1 : Int) := by rw [HH1.out]; rfl
                have v2 : wrap64 (h1 : Int) = (h1 : Int) := wrap_nat' (by rw [HH1.out]; exact HX.out.2.1)
                have HBL := hid (below_any _ _ L (tks sub N) lo0 h1 w7 (HKV.out _ HR7.out.be) HR7.out.sees HLL.out (HOLT.out) HLN1.out (HLN2.out))
                have hbl : bel L (tks sub N) lo0 h1 = ct := by
                  have h := bel_full (a := hi + 1) (n := h1) (lo := lo) HFT.out.al HFT.out.nd HFT.out.km HO.out.1 HO.out.2 (fun m => by rw [HH1.out, ← HFT.out.hi, Nat.lt_succ_iff, Nat.lt_succ_iff, adr_le]) (fun x k1 k2 => HF6.out x k1 (Nat.lt_succ_iff.1 k2))
                  rw [HFT.out.lo] at h
                  have h5 := HR7.out.facts.2.2.2.2.1
                  rw [h, HCT.out, HD2.out]
                  exact (Nat.sub_add_comm h5)
                rw [hbl] at HBL
                obtain ⟨wl, wh⟩ := HWL.out
                clear hbl hb7 r7 HTK
                go_upto_region 19 with fail
                rw [← HW7.out, ← HXB.out]
                go_wp2_with fail
                refine HBL.out.mono ?_
                rintro _ w8 ⟨rfl, hb8⟩
                have HR8 := hid (HR7.out.below hb8)
                clear hb8 HBL v1 v2 wl wh x0 c3 c4 c5
                go_wp2_with fail
                go_roundw
                case rel => exact ⟨j + 1, N, ts, by go_num, hjn, HR8, HO, hid (Nat.le_trans HNL.out (Nat.le_succ _))⟩
                case measure => simp [intOf]; omega
        · by_cases k2 : okk = 2
          · subst k2
            as_aux_lemma =>
              have HCM := hid (HR4.out.claimK oa ol HOA.out)
              obtain ⟨-, f2, f3⟩ := HOB.out w4 R4.out
              go_wp2_with fail
              refine HCM.out.mono ?_
              rintro _ w6 ⟨c, ts', rfl, HF6, HM6, HR6, HK6⟩
              have R6 := hid (HK6.out _ _ _ (by decide) (by decide) R4.out)
              obtain ⟨rwb, HRW⟩ : ∃ rwb, Hid (rwb = decide (alg sub oa ol = true ∧ lo ≤ num sub oa ∧ num sub oa ≤ hi)) := ⟨_, rfl⟩
              obtain ⟨hkb, HHKB⟩ : ∃ hkb, Hid (hkb = decide ((oa, ol) ∈ L)) := ⟨_, rfl⟩
              obtain ⟨hob, HHOB⟩ : ∃ hob, Hid (hob = decide ((oa, ol) ∈ tks sub N)) := ⟨_, rfl⟩
              have HC0 : Hid (c = 0 ↔ (rwb = true ∨ hkb = true) ∧ hob = false) := by
                unfold Hid
                rw [HRW.out, HHKB.out, HHOB.out, decide_eq_true_eq, decide_eq_true_eq, decide_eq_false_iff_not, kept_mem HFT.out.al, tks_mem, ← HFT.out.km, HO.out.2]
                rcases HF6.out with ⟨h1, h2⟩ | ⟨h1, h2, h3, h4⟩ | ⟨h1, h2, h3, h4⟩ | ⟨h1, h2, h3, h4⟩
                · rw [h1, h2]; simp
                · rw [h1, h4]; simp [h2, h3]
                · rw [h1, h4]; simp [h3]
                · rw [h1, h4]; simp [h2, h3]
              clear f2 f3 HCM
              go_upto_region 30 with fail
              go_cut [17] from 59 to 230 (fun r wx => r = .bool rwb ∧ wx = w6)
              case first =>
                as_aux_lemma =>
                  obtain ⟨-, f2, f3⟩ := HOB.out w6 R6.out
                  obtain ⟨-, -, c2, c3, c4, -⟩ := HCL.out w6 HR6.out.be
                  obtain ⟨rr, HRR⟩ : ∃ rr, Hid (rr = oa % Z) := ⟨_, hid rfl⟩
                  have HNB : Hid (rwb = false ∨ (ol = (sub : Int) ∧ rr = 0 ∧ lo0 ≤ oa ∧ oa ≤ hi0)) := by
                    unfold Hid
                    rw [HRW.out, decide_eq_false_iff_not]
                    by_cases h : alg sub oa ol = true ∧ lo ≤ num sub oa ∧ num sub oa ≤ hi
                    · right
                      obtain ⟨h1, h2, h3⟩ := h
                      obtain ⟨e1, e2⟩ := alg_back h1
                      refine ⟨e1, ?_, ?_, ?_⟩
                      · rw [HRR.out, HZZ.out, ← e2]; unfold adr; exact Nat.mul_mod_left _ _
                      · rw [← HFT.out.lo, ← e2, adr_le]; exact h2
                      · rw [← HFT.out.hi, ← e2, adr_le]; exact h3
                    · exact .inl h
                  have HNT : Hid (ol = (sub : Int) → rr = 0 → lo0 ≤ oa → oa ≤ hi0 → rwb = true) := by
                    intro h1 h2 h3 h4
                    have ha : alg sub oa ol = true := by unfold alg; rw [decide_eq_true_eq]; exact ⟨h1, by rw [← HZZ.out, ← HRR.out]; exact h2⟩
                    have e2 := (alg_back ha).2
                    rw [HRW.out, decide_eq_true_eq]
                    refine ⟨ha, ?_, ?_⟩
                    · rw [← HFT.out.lo, ← e2, adr_le] at h3; exact h3
                    · rw [← HFT.out.hi, ← e2, adr_le] at h4; exact h4
                  have hN : ∀ P : Prop, (ol = (sub : Int) ∧ rr = 0 ∧ lo0 ≤ oa ∧ oa ≤ hi0 → P) → ¬ P → false = rwb := fun P h hp => by
                    rcases HNB.out with h0 | h0
                    · exact h0.symm
                    · exact absurd (h h0) hp
                  have HN := hid hN
                  clear hN
                  have i2 : ¬ (Z : Int) = 0 := int_ne (Nat.ne_of_gt HX.out.2.2.1)
                  have wo : wrap64 (oa : Int) = (oa : Int) := wrap_nat' (Nat.le_of_lt HOA.out)
                  have tq : (oa : Int).tmod (Z : Int) = (rr : Int) := by rw [HRR.out]; exact tmod_nat _ _
                  by_cases g1 : ol = (sub : Int)
                  · have g1' : (ol == (sub : Int)) = true := by simp [g1]
                    by_cases g2 : rr = 0
                    · rw [g2] at tq
                      simp only [Int.natCast_zero] at tq
                      by_cases g3 : lo0 ≤ oa
                      · have g3' : (lo0 : Int) ≤ (oa : Int) := int_le g3
                        by_cases g4 : oa ≤ hi0
                        · have g4' : (oa : Int) ≤ (hi0 : Int) := int_le g4
                          have HE : Hid (true = rwb) := (HNT.out g1 g2 g3 g4).symm
                          clear g1 g2 g3 g4
                          go_wp2_with fail
                          go_meet
                          exact ⟨congrArg Value.bool HE.out, rfl⟩
                        · have g4' : ¬ (oa : Int) ≤ (hi0 : Int) := int_nle g4
                          have HE : Hid (false = rwb) := HN.out _ (fun h => h.2.2.2) g4
                          clear g1 g2 g3 g4
                          go_wp2_with fail
                          go_meet
                          exact ⟨congrArg Value.bool HE.out, rfl⟩
                      · have g3' : ¬ (lo0 : Int) ≤ (oa : Int) := int_nle g3
                        have HE : Hid (false = rwb) := HN.out _ (fun h => h.2.2.1) g3
                        clear g1 g2 g3
                        go_wp2_with fail
                        go_meet
                        exact ⟨congrArg Value.bool HE.out, rfl⟩
                    · have g2' : ¬ (rr : Int) = 0 := int_ne g2
                      have HE : Hid (false = rwb) := HN.out _ (fun h => h.2.1) g2
                      clear g1 g2
                      go_wp2_with fail
                      go_meet
                      exact ⟨congrArg Value.bool HE.out, rfl⟩
                  · have g1' : (ol == (sub : Int)) = false := by simp [g1]
                    have HE : Hid (false = rwb) := HN.out _ (fun h => h.1) g1
                    clear tq
                    go_wp2_with fail
                    go_meet
                    exact ⟨congrArg Value.bool HE.out, rfl⟩
              case rest =>
                obtain ⟨rfl, hwc⟩ := hcut
                subst hwc
                as_aux_lemma =>
                  cases rwb with
                  | true =>
                    as_aux_lemma =>
                      have HH2 := hid (has_any _ (tks sub N) oa ol wc HR6.out.sees)
                      rw [← HHOB.out] at HH2
                      obtain ⟨-, f2, f3⟩ := HOB.out wc R6.out
                      go_wp2_with fail
                      refine HH2.out.mono ?_
                      rintro _ w8 ⟨rfl, hb8⟩
                      have HR8 := hid (HR6.out.below hb8)
                      have R8 := hid (KpT.of hb8 _ _ _ (by decide) (by decide) R6.out)
                      clear f2 f3 HH2 hb8
                      cases hob with
                      | true =>
                        as_aux_lemma =>
                          have hc0 : ¬ c = 0 := fun h => by have := HC0.out.1 h; simp at this
                          have hc1' : (c == 0) = false := by simp [hc0]
                          have hts : ts' = ts := by rcases HM6.out with h | h; exact h.2; exact absurd h.1 hc0
                          subst hts
                          go_wp2_with fail
                          go_roundw
                          case rel => exact ⟨j + 1, N, ts', by go_num, hjn, HR8, HO, hid (Nat.le_trans HNL.out (Nat.le_succ _))⟩
                          case measure => simp [intOf]; omega
                      | false =>
                        as_aux_lemma =>
                          have hc0 : c = 0 := HC0.out.2 (by simp)
                          subst hc0
                          have hal : alg sub oa ol = true := by
                            rcases HF6.out with h | h | h | h
                            · exact absurd h.2 (by decide)
                            · exact absurd h.2.2.2 (by decide)
                            · exact absurd h.2.2.2 (by decide)
                            · exact h.1
                          have hnt : ¬ Mem ts (num sub oa) := by
                            rcases HF6.out with h | h | h | h
                            · exact absurd h.2 (by decide)
                            · exact absurd h.2.2.2 (by decide)
                            · exact absurd h.2.2.2 (by decide)
                            · exact h.2.2.1
                          have hmt : ∀ m, Mem ts' m ↔ m = num sub oa ∨ Mem ts m := by
                            rcases HM6.out with h | h
                            · exact absurd rfl h.1
                            · exact h.2
                          obtain ⟨-, f2, f3⟩ := HOB.out w8 R8.out
                          obtain ⟨w10, HW10⟩ : ∃ w10, Hid (w10 = w8.alloc (.cells #[.int .u32 (oa : Int), .int .i64 ol] 25)) := ⟨_, rfl⟩
                          obtain ⟨hb10, hS10⟩ := sees_one HW10.out
                          obtain ⟨g', w11, hap, hR11⟩ := (HR8.out.below hb10).append 26 _ _ hS10 (HLN3.out)
                          have HAP := hid hap
                          have HR11 : Hid (Rl w2 pb sub lo hi ks ts' g' (tks sub (N ++ [num sub oa])) w11) := by
                            unfold Hid tks; rw [List.map_append]
                            have e : (adr sub (num sub oa), (sub : Int)) = (oa, ol) := pr_iff.2 ⟨hal, rfl⟩
                            rw [List.map_cons, List.map_nil, e]
                            exact hR11
                          have HO2 := hid (HO.out.add hnt hmt)
                          have HNL2 : Hid ((N ++ [num sub oa]).length ≤ j + 1) := by unfold Hid; rw [List.length_append]; exact Nat.add_le_add_right HNL.out 1
                          clear hb10 hS10 hap hR11 hal hnt hmt
                          go_upto_region 14 with (at_builtin; rw [← HW10.out]; refine wpList_append_run _ rfl _ _ 26 26 rfl _ _ rfl rfl HAP.out ?_)
                          go_wp2_with fail
                          go_roundw
                          case rel => exact ⟨j + 1, N ++ [num sub oa], ts', by go_num, hjn, HR11, HO2, HNL2⟩
                          case measure => simp [intOf]; omega
                  | false =>
                    as_aux_lemma =>
                      have HH1 := hid (has_any _ L oa ol wc (HKV.out _ HR6.out.be))
                      rw [← HHKB.out] at HH1
                      obtain ⟨-, f2, f3⟩ := HOB.out wc R6.out
                      obtain ⟨-, -, -, -, -, c5⟩ := HCL.out wc HR6.out.be
                      go_wp2_with fail
                      refine HH1.out.mono ?_
                      rintro _ w7 ⟨rfl, hb7⟩
                      have HR7 := hid (HR6.out.below hb7)
                      have R7 := hid (KpT.of hb7 _ _ _ (by decide) (by decide) R6.out)
                      clear f2 f3 c5 HH1 hb7
                      cases hkb with
                      | false =>
                        have hc0 : ¬ c = 0 := fun h => by have := HC0.out.1 h; simp at this
                        have hc1' : (c == 0) = false := by simp [hc0]
                        have hts : ts' = ts := by rcases HM6.out with h | h; exact h.2; exact absurd h.1 hc0
                        subst hts
                        go_wp2_with fail
                        go_roundw
                        case rel => exact ⟨j + 1, N, ts', by go_num, hjn, HR7, HO, hid (Nat.le_trans HNL.out (Nat.le_succ _))⟩
                        case measure => simp [intOf]; omega
                      | true =>
                        have HH2 := hid (has_any _ (tks sub N) oa ol w7 HR7.out.sees)
                        rw [← HHOB.out] at HH2
                        obtain ⟨-, f2, f3⟩ := HOB.out w7 R7.out
                        go_wp2_with fail
                        refine HH2.out.mono ?_
                        rintro _ w8 ⟨rfl, hb8⟩
                        have HR8 := hid (HR7.out.below hb8)
                        have R8 := hid (KpT.of hb8 _ _ _ (by decide) (by decide) R7.out)
                        clear f2 f3 HH2 hb8
                        cases hob with
                        | true =>
                          as_aux_lemma =>
                            have hc0 : ¬ c = 0 := fun h => by have := HC0.out.1 h; simp at this
                            have hc1' : (c == 0) = false := by simp [hc0]
                            have hts : ts' = ts := by rcases HM6.out with h | h; exact h.2; exact absurd h.1 hc0
                            subst hts
                            go_wp2_with fail
                            go_roundw
                            case rel => exact ⟨j + 1, N, ts', by go_num, hjn, HR8, HO, hid (Nat.le_trans HNL.out (Nat.le_succ _))⟩
                            case measure => simp [intOf]; omega
                        | false =>
                          as_aux_lemma =>
                            have hc0 : c = 0 := HC0.out.2 (by simp)
                            subst hc0
                            have hal : alg sub oa ol = true := by
                              rcases HF6.out with h | h | h | h
                              · exact absurd h.2 (by decide)
                              · exact absurd h.2.2.2 (by decide)
                              · exact absurd h.2.2.2 (by decide)
                              · exact h.1
                            have hnt : ¬ Mem ts (num sub oa) := by
                              rcases HF6.out with h | h | h | h
                              · exact absurd h.2 (by decide)
                              · exact absurd h.2.2.2 (by decide)
                              · exact absurd h.2.2.2 (by decide)
                              · exact h.2.2.1
                            have hmt : ∀ m, Mem ts' m ↔ m = num sub oa ∨ Mem ts m := by
                              rcases HM6.out with h | h
                              · exact absurd rfl h.1
                              · exact h.2
                            obtain ⟨-, f2, f3⟩ := HOB.out w8 R8.out
                            obtain ⟨w10, HW10⟩ : ∃ w10, Hid (w10 = w8.alloc (.cells #[.int .u32 (oa : Int), .int .i64 ol] 25)) := ⟨_, rfl⟩
                            obtain ⟨hb10, hS10⟩ := sees_one HW10.out
                            obtain ⟨g', w11, hap, hR11⟩ := (HR8.out.below hb10).append 26 _ _ hS10 (HLN3.out)
                            have HAP := hid hap
                            have HR11 : Hid (Rl w2 pb sub lo hi ks ts' g' (tks sub (N ++ [num sub oa])) w11) := by
                              unfold Hid tks; rw [List.map_append]
                              have e : (adr sub (num sub oa), (sub : Int)) = (oa, ol) := pr_iff.2 ⟨hal, rfl⟩
                              rw [List.map_cons, List.map_nil, e]
                              exact hR11
                            have HO2 := hid (HO.out.add hnt hmt)
                            have HNL2 : Hid ((N ++ [num sub oa]).length ≤ j + 1) := by unfold Hid; rw [List.length_append]; exact Nat.add_le_add_right HNL.out 1
                            clear hb10 hS10 hap hR11 hal hnt hmt
                            go_upto_region 14 with (at_builtin; rw [← HW10.out]; refine wpList_append_run _ rfl _ _ 26 26 rfl _ _ rfl rfl HAP.out ?_)
                            go_wp2_with fail
                            go_roundw
                            case rel => exact ⟨j + 1, N ++ [num sub oa], ts', by go_num, hjn, HR11, HO2, HNL2⟩
                            case measure => simp [intOf]; omega
          · by_cases k3 : okk = 3
            · subst k3
              as_aux_lemma =>
                have HFM := hid (HR4.out.freeK oa ol HOA.out)
                obtain ⟨-, f2, f3⟩ := HOB.out w4 R4.out
                go_wp2_with fail
                refine HFM.out.mono ?_
                rintro _ w6 ⟨c, ts', rfl, HF6, HR6, HK6⟩
                have R6 := hid (HK6.out _ _ _ (by decide) (by decide) R4.out)
                obtain ⟨hob, HHOB⟩ : ∃ hob, Hid (hob = decide ((oa, ol) ∈ tks sub N)) := ⟨_, rfl⟩
                have HC0 : Hid ((hob = true ∧ c = 0) ∨ (hob = false ∧ c = 3)) := by
                  unfold Hid
                  rw [HHOB.out, decide_eq_true_eq, decide_eq_false_iff_not, tks_mem, HO.out.2]
                  rcases HF6.out with ⟨h1, h2, -⟩ | ⟨h1, h2, h3, -⟩
                  · right
                    refine ⟨fun h => ?_, h2⟩
                    rcases h1 with h1 | h1
                    · rw [h1] at h; cases h.1
                    · exact h1 h.2
                  · exact .inl ⟨⟨h1, h2⟩, h3⟩
                have HMM : Hid (∀ m, Mem ts' m ↔ Mem ts m ∧ ¬ (alg sub oa ol = true ∧ m = num sub oa)) := fun m => by
                  rcases HF6.out with ⟨h1, -, h2⟩ | ⟨h1, h2, -, h3⟩
                  · rw [h2]
                    refine ⟨fun h => ⟨h, ?_⟩, fun h => h.1⟩
                    rintro ⟨k1, k2⟩
                    rcases h1 with h1 | h1
                    · rw [h1] at k1; cases k1
                    · exact h1 (k2 ▸ h)
                  · rw [h3 m]
                    exact ⟨fun h => ⟨h.2, fun k => h.1 k.2⟩, fun h => ⟨fun e => h.2 ⟨h1, e⟩, h.1⟩⟩
                have HH2 := hid (has_any _ (tks sub N) oa ol w6 HR6.out.sees)
                rw [← HHOB.out] at HH2
                clear f2 f3 HFM
                obtain ⟨-, f2, f3⟩ := HOB.out w6 R6.out
                go_wp2_with fail
                refine HH2.out.mono ?_
                rintro _ w7 ⟨rfl, hb7⟩
                have HR7 := hid (HR6.out.below hb7)
                have R7 := hid (KpT.of hb7 _ _ _ (by decide) (by decide) R6.out)
                have HWO := hid (without_any _ (tks sub N) oa ol w7 HR7.out.sees (HLN2.out))
                have HO2 := hid (HO.out.drop (sub := sub) HMM.out)
                have HNL2 : Hid ((N.filter fun m => !decide ((adr sub m, (sub : Int)) = (oa, ol))).length ≤ j + 1) := Nat.le_trans (List.length_filter_le _ _) (Nat.le_trans HNL.out (Nat.le_succ _))
                rw [tks_filter] at HWO
                generalize (N.filter fun m => !decide ((adr sub m, (sub : Int)) = (oa, ol))) = N' at *
                clear f2 f3 HH2 hb7
                obtain ⟨-, f2, f3⟩ := HOB.out w7 R7.out
                rcases HC0.out with ⟨hh, hc⟩ | ⟨hh, hc⟩
                · subst hh hc
                  go_upto_region 40 with fail
                  go_wp2_with fail
                  refine HWO.out.mono ?_
                  rintro _ w8 ⟨v', rfl, hO8, hb8⟩
                  have HR8 : Hid (Rl w2 pb sub lo hi ks ts' v' (tks sub N') w8) := (HR7.out.below hb8).relist (hO8.low HR7.out.be.size)
                  clear hO8 hb8 HWO f2 f3
                  go_wp2_with fail
                  go_roundw
                  case rel => exact ⟨j + 1, N', ts', by go_num, hjn, HR8, HO2, HNL2⟩
                  case measure => simp [intOf]; omega
                · subst hh hc
                  go_upto_region 40 with fail
                  go_wp2_with fail
                  refine HWO.out.mono ?_
                  rintro _ w8 ⟨v', rfl, hO8, hb8⟩
                  have HR8 : Hid (Rl w2 pb sub lo hi ks ts' v' (tks sub N') w8) := (HR7.out.below hb8).relist (hO8.low HR7.out.be.size)
                  clear hO8 hb8 HWO f2 f3
                  go_wp2_with fail
                  go_roundw
                  case rel => exact ⟨j + 1, N', ts', by go_num, hjn, HR8, HO2, HNL2⟩
                  case measure => simp [intOf]; omega
            · have k1' : (okk == 1) = false := by simp [k1]
              have k2' : (okk == 2) = false := by simp [k2]
              have k3' : (okk == 3) = false := by simp [k3]
              go_wp2_with fail
              go_roundw
              case rel => exact ⟨j + 1, N, ts, by go_num, hjn, HR4, HO, hid (Nat.le_trans HNL.out (Nat.le_succ _))⟩
              case measure => simp [intOf]; omega
      · have b1 : ¬ (j : Int) < (nc : Int) := int_nlt hjn
        have HTN := hid HR.out.taken
        go_upto_region 41 with fail
        go_wp2_with fail
        refine HTN.out.mono ?_
        rintro _ w6 ⟨vl, rfl, HA6⟩
        have HR6 := hid (HR.out.below HA6.out.2)
        obtain ⟨al, nl, cl, e1, HNLL, hnl1, hnl2⟩ := HA6.out.1.shape
        subst e1
        obtain ⟨ag, ng, cg, e2, HNG, hng1, hng2⟩ := HR6.out.sees.shape
        subst e2
        unfold maxLen at hnl2 hng2
        obtain rfl : nl = ng := by
          have h1 := HNLL.out
          have h2 := HNG.out
          unfold tks at h1 h2
          rw [List.length_map] at h1 h2
          rw [h1, h2]
          have hup := els_up HR.out.facts.2.1
          exact nod_eq (hup.imp fun h => Nat.ne_of_lt h) HO.out.1 fun m => by rw [els_mem HR.out.facts.2.1, HO.out.2 m]
        clear HTN
        go_upto_region 45 with fail
        go_loopw [21] (fun i wr => ∃ i2 : Nat, i = .int .i64 (i2 : Int) ∧ i2 ≤ nl ∧ Hid (Below w6.heap.size w6 wr)) (fun i _ => nl - (intOf i).toNat)
        case atStart => exact ⟨0, rfl, Nat.zero_le _, Below.refl _ _⟩
        case round =>
          obtain ⟨i2, rfl, hi2, HB⟩ := hrel
          have HBW : Hid (Below w.heap.size w wr) := HB2.out.trans ((HR6.out.be.trans (HB.out.mono HR6.out.be.size)).mono HB2.out.size)
          by_cases hin : i2 < nl
          · obtain ⟨g, off, p, e, hg, d0, d1, HP⟩ := (HA6.out.1.below HB.out).at i2 hin
            subst e
            have hix : i2 < (els ts).length := by have h := HNLL.out; unfold tks at h; rw [List.length_map] at h; omega
            obtain ⟨m, HM⟩ : ∃ m, Hid ((els ts)[i2]? = some m) := ⟨_, hid (List.getElem?_eq_getElem hix)⟩
            have hp : p = (adr sub m, (sub : Int)) := by
              have h := HP.out
              unfold tks at h
              rw [List.getElem?_map, HM.out] at h
              simpa using h.symm
            subst hp
            obtain ⟨am, HAM⟩ : ∃ am, Hid (am = adr sub m) := ⟨_, rfl⟩
            rw [← HAM.out] at d0
            simp only at d1
            have k0 : ∀ t : Beh wr, t.wd.cell? ⟨g, off + i2 * 2, none⟩ = some (.int .u32 (am : Int)) := fun t => (t.ok.cell (p := ⟨g, _, none⟩) hg).trans d0
            have k1 : ∀ t : Beh wr, t.wd.cell? ⟨g, off + i2 * 2 + 1, none⟩ = some (.int .i64 (sub : Int)) := fun t => (t.ok.cell (p := ⟨g, _, none⟩) hg).trans d1
            have HHS : ∀ t : Beh wr, Hid (Calls Try.prog 16 #[.slice ag nl cg, .agg #[.int .u32 (am : Int), .int .i64 (sub : Int)]] t.wd fun e w' => e = .returned (.bool true) ∧ ∃ t' : Beh wr, w' = t'.wd) := fun t => by
              have h := has_any _ (tks sub N) am (sub : Int) t.wd ((HR6.out.sees.below HB.out).below t.ok)
              rw [show decide ((am, (sub : Int)) ∈ tks sub N) = true by
                rw [decide_eq_true_eq, tks_mem, HAM.out, alg_adr, num_adr, HO.out.2]
                exact ⟨rfl, (els_mem HR.out.facts.2.1).1 (List.mem_of_getElem? HM.out)⟩] at h
              exact Calls.beh h
            have b2 : (i2 : Int) < (nl : Int) := int_lt hin
            have b3 : (0 : Int) ≤ (i2 : Int) := by omega
            have b4 : decide ((i2 : Int) < 0) = false := by simp
            by_cases hz : i2 = 0
            · have z1 : ¬ (0 : Int) < (i2 : Int) := by omega
              have z2 : decide ((0 : Int) < (i2 : Int)) = false := by simp only [decide_eq_false_iff_not]; exact z1
              have z3 : ¬ 0 < i2 := by omega
              have z4 : decide (0 < i2) = false := by simp only [decide_eq_false_iff_not]; exact z3
              clear d0 d1 hg hix hz
              go_upto_region 47 with fail
              refine wp_region_beh (by kernel_rfl) (by kernel_rfl) ?_
              repeat (go_big_quiet_step (first | (go_at_call 16; exact (HHS _).out)))
              refine wpQuiet_nil ?_
              rintro _ ⟨t, rfl⟩
              have HB7 : Hid (Below w6.heap.size w6 t.wd) := HB.out.trans (t.ok.mono HB.out.size)
              clear k0 k1 HHS
              go_wp2_with fail
              go_roundw
              case rel => exact ⟨i2 + 1, by go_num, hin, HB7⟩
              case measure => simp [intOf]; omega
            · obtain ⟨i3, HI3⟩ : ∃ i3, Hid (i2 = i3 + 1) := ⟨i2 - 1, by unfold Hid; omega⟩
              have hin3 : i3 < nl := by have := HI3.out; omega
              have hix3 : i3 < (els ts).length := by have := HI3.out; omega
              obtain ⟨g', off', p3, e3, hg3, z0, z1, HP3⟩ := (HA6.out.1.below HB.out).at i3 hin3
              simp only [Option.some.injEq, Addr.mk.injEq, and_true] at e3
              obtain ⟨e31, e32⟩ := e3
              subst e31 e32
              obtain ⟨m3, HM3⟩ : ∃ m3, Hid ((els ts)[i3]? = some m3) := ⟨_, hid (List.getElem?_eq_getElem hix3)⟩
              have hp3 : p3 = (adr sub m3, (sub : Int)) := by
                have h := HP3.out
                unfold tks at h
                rw [List.getElem?_map, HM3.out] at h
                simpa using h.symm
              subst hp3
              obtain ⟨am3, HAM3⟩ : ∃ am3, Hid (am3 = adr sub m3) := ⟨_, rfl⟩
              rw [← HAM3.out] at z0
              have k2 : ∀ t : Beh wr, t.wd.cell? ⟨g, off + i3 * 2, none⟩ = some (.int .u32 (am3 : Int)) := fun t => (t.ok.cell (p := ⟨g, _, none⟩) hg).trans z0
              have hlt : ¬ am ≤ am3 := by
                rw [HAM.out, HAM3.out, adr_le]
                obtain ⟨l1, e1⟩ := List.getElem?_eq_some_iff.1 HM.out
                obtain ⟨l3, e3⟩ := List.getElem?_eq_some_iff.1 HM3.out
                have h := List.pairwise_iff_getElem.1 (els_up HR.out.facts.2.1) i3 i2 l3 l1 (by rw [HI3.out]; exact Nat.lt_succ_self _)
                rw [e1, e3] at h
                exact Nat.not_le.2 h
              have g1 : ¬ (am : Int) ≤ (am3 : Int) := int_nle hlt
              have g1' : decide ((am : Int) ≤ (am3 : Int)) = false := by simp only [decide_eq_false_iff_not]; exact g1
              have g2 : (0 : Int) < (i2 : Int) := by have := HI3.out; omega
              have g2' : decide ((0 : Int) < (i2 : Int)) = true := by simp only [decide_eq_true_eq]; exact g2
              have g7 : 0 < i2 := by omega
              have g7' : decide (0 < i2) = true := by simp only [decide_eq_true_eq]; exact g7
              have g3 : (i2 : Int) - 1 = (i3 : Int) := by have := HI3.out; omega
              have g3' : wrap64 ((i2 : Int) - 1) = (i3 : Int) := by rw [g3]; unfold wrap64; omega
              have g4 : (i3 : Int) < (nl : Int) := int_lt hin3
              have g5 : (0 : Int) ≤ (i3 : Int) := by omega
              have g6 : decide ((i3 : Int) < 0) = false := by simp
              clear d0 d1 hg hix hg3 z0 z1 hlt hix3 hin3 hz
              go_upto_region 47 with fail
              refine wp_region_beh (by kernel_rfl) (by kernel_rfl) ?_
              repeat (go_big_quiet_step (first | (go_at_call 16; exact (HHS _).out)))
              refine wpQuiet_nil ?_
              rintro _ ⟨t, rfl⟩
              have HB7 : Hid (Below w6.heap.size w6 t.wd) := HB.out.trans (t.ok.mono HB.out.size)
              clear k0 k1 k2 HHS g1 g1' g2 g2' g3 g3' g4 g5 g6 g7 g7'
              go_wp2_with fail
              go_roundw
              case rel => exact ⟨i2 + 1, by go_num, hin, HB7⟩
              case measure => simp [intOf]; omega
          · have b2 : ¬ (i2 : Int) < (nl : Int) := int_nlt hin
            go_wp2_with fail
            go_ret
            exact ⟨rfl, HBW.out⟩
end Go.Proofs.Ytahoileampdnkaa
