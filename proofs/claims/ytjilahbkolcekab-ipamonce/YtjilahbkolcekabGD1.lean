/-
  The law's told, edges.
-/
import Derived.Test.YtjilahbkolcekabGB1
namespace Go.Proofs.Ytjilahbkolcekab
open Go.ChangeShapes Go.WideShapes Go.ChangeAt Go.RowKit Go.Maps Tri
set_option maxHeartbeats 8000000
set_option maxRecDepth 100000

theorem owE_out {s : Ist} {a : Nat} (h : a < s.b ∨ s.b + s.z ≤ a) : s.owE a = 151 := by unfold Ist.owE; rw [if_pos h]
theorem owE_none {s : Ist} (hok : s.Ok) {a : Nat} (h1 : s.b ≤ a) (h2 : a < s.b + s.z) (h : a < s.b + 2 ∨ s.b + s.z < a + 2) : s.owE a = 3 := by
  unfold Ist.owE
  rw [if_neg (by omega)]
  have : s.byA a = none := by
    unfold Ist.byA
    rw [List.find?_eq_none]
    intro p hp
    have := hok.ar p hp
    simp only [decide_eq_true_eq]
    omega
  rw [this]; rfl
theorem owE_some {s : Ist} (hok : s.Ok) {p : Pod} (hp : p ∈ s.S) : s.owE p.ad = 0 ∧ s.owN p.ad = p.nm := by
  have := hok.ar p hp
  have hno : ¬ (p.ad < s.b ∨ s.b + s.z ≤ p.ad) := by omega
  unfold Ist.owE Ist.owN
  rw [if_neg hno, if_neg hno, hok.byA_mem hp]
  exact ⟨rfl, rfl⟩

theorem edges_any (w : World) (pb bn ba : Nat) (s : Ist) (y : Nat) (h : IpAt w pb bn ba s) (hy1 : 1 ≤ y) (hy30 : y ≤ 30) (hz : s.z = 2 ^ (32 - y)) :
    Calls Try.prog 27 #[.pointer (some ⟨pb, 0, none⟩), .agg #[.int .u32 (s.b : Int), .int .i64 (y : Int)]] w fun e w' => e = .returned (.bool true) ∧ Below w.heap.size w w' := by
  have hok := h.ok
  obtain ⟨b, HBB⟩ : ∃ b, Hid (b = s.b) := ⟨_, rfl⟩
  obtain ⟨z, HZZ⟩ : ∃ z, Hid (z = s.z) := ⟨_, rfl⟩
  have hz4 : 4 ≤ z := by rw [HZZ.out]; exact hok.z4
  have hz31 : z ≤ 2147483648 := by rw [HZZ.out]; exact hok.z31
  have hbe : b + z ≤ 4294967296 := by rw [HZZ.out, HBB.out]; exact hok.be
  rw [← HBB.out]
  obtain ⟨wa, HWA⟩ : ∃ wa, Hid (wa = w.alloc (.cells #[.int .u32 (b : Int), .int .i64 (y : Int)] 25)) := ⟨_, rfl⟩
  have hb0 : Below w.heap.size w wa := by rw [HWA.out]; exact (Below.refl _ _).alloc (Nat.le_refl _) _
  have R1 : wa.heap[w.heap.size]? = some (.cells #[.int .u32 (b : Int), .int .i64 (y : Int)] 25) := by rw [HWA.out]; exact heap_alloc_new w _
  obtain ⟨q0, q1⟩ := Beh.two R1
  have c0 := q0 ⟨wa, Below.refl _ _⟩
  have c1 := q1 ⟨wa, Below.refl _ _⟩
  simp only at c0 c1
  have HCX : Hid (∀ u : World, Below wa.heap.size wa u → u.cell? ⟨w.heap.size, 0, none⟩ = some (.int .u32 (b : Int))) := fun u hu => q0 ⟨u, hu⟩
  have HIP : Hid (∀ u : World, Below wa.heap.size wa u → IpAt u pb bn ba s) := fun u hu => (h.below hb0).below hu
  have HB0 := hid hb0
  have HSZ : Hid (Calls Try.prog 16 #[.agg #[.int .u32 (b : Int), .int .i64 (y : Int)]] wa fun e w' => e = .returned (.int .i64 (z : Int)) ∧ Below wa.heap.size wa w') := by
    rw [HZZ.out, hz]; exact size_any b y wa hy1 hy30
  have HOW : ∀ (u : World) (a : Nat) (e : Int), Below wa.heap.size wa u → a < 4294967296 → s.owE a = e → Hid (Calls Try.prog 33 #[.pointer (some ⟨pb, 0, none⟩), .int .u32 (a : Int)] u fun r w' => ∃ N, r = .returned (.tuple #[.string N, .int .i64 e]) ∧ Below u.heap.size u w') := fun u a e hu ha he => by
    refine (owner_any u pb bn ba s a (HIP.out u hu) ha).mono ?_
    rintro r w' ⟨hr, hb⟩
    exact ⟨_, by rw [hr, he], hb⟩
  have E0 : Hid (s.owE b = 3) := by rw [HBB.out]; exact owE_none hok (Nat.le_refl _) (by have := hok.z4; omega) (.inl (by omega))
  have E1 : Hid (s.owE (b + 1) = 3) := by rw [HBB.out]; exact owE_none hok (by omega) (by have := hok.z4; omega) (.inl (by omega))
  have E2 : Hid (s.owE (b + (z - 1)) = 3) := by rw [HBB.out, HZZ.out]; exact owE_none hok (by omega) (by have := hok.z4; omega) (.inr (by have := hok.z4; omega))
  obtain ⟨a3, HA3⟩ : ∃ a3 : Nat, Hid ((a3 : Int) = ((b : Int) - 1) % 4294967296) := ⟨(((b : Int) - 1) % 4294967296).toNat, hid (by omega)⟩
  have ha3 : a3 < 4294967296 := by have := HA3.out; omega
  have E3 : Hid (s.owE a3 = 151) := by
    refine owE_out ?_
    rw [← HBB.out, ← HZZ.out]
    have := HA3.out
    omega
  obtain ⟨a4, HA4⟩ : ∃ a4 : Nat, Hid ((a4 : Int) = ((b : Int) + (z : Int)) % 4294967296) := ⟨(((b : Int) + (z : Int)) % 4294967296).toNat, hid (by omega)⟩
  have ha4 : a4 < 4294967296 := by have := HA4.out; omega
  have E4 : Hid (s.owE a4 = 151) := by
    refine owE_out ?_
    rw [← HBB.out, ← HZZ.out]
    have := HA4.out
    omega
  have HGW : ∀ u : World, Below wa.heap.size wa u → Hid (Calls Try.prog 37 #[.pointer (some ⟨pb, 0, none⟩)] u fun e w' => e = .returned (.int .u32 ((b + 1 : Nat) : Int)) ∧ w' = u) := fun u hu => by rw [HBB.out]; exact gateway_any u pb bn ba s (HIP.out u hu)
  clear q0 q1 R1 hb0 h hok
  go_enter Try.func27, Try.ntmps27
  go_upto_region 1 with fail
  rw [← HWA.out]
  go_wp2_with fail
  refine HSZ.out.mono ?_
  rintro _ w1 ⟨rfl, hb1⟩
  have d1 := HCX.out w1 hb1
  have O1 := HOW w1 b 3 hb1 (by omega) E0.out
  have HB1 := hid hb1
  clear c0 c1 hb1 HSZ
  go_wp2_with fail
  refine O1.out.mono ?_
  rintro _ w2 ⟨N1, rfl, hb2⟩
  have HB2 := hid (HB1.out.trans (hb2.mono HB1.out.size))
  have d2 := HCX.out w2 HB2.out
  have O2 := HOW w2 (b + 1) 3 HB2.out (by omega) E1.out
  simp only [Int.natCast_add, Int.natCast_one] at O2
  clear d1 O1 hb2
  go_wp2_with fail
  refine O2.out.mono ?_
  rintro _ w3 ⟨N2, rfl, hb3⟩
  have HB3 := hid (HB2.out.trans (hb3.mono HB2.out.size))
  have d3 := HCX.out w3 HB3.out
  obtain ⟨a2, HA2⟩ : ∃ a2 : Nat, Hid (a2 = b + (z - 1)) := ⟨_, rfl⟩
  have O3 := HOW w3 a2 3 HB3.out (by have := HA2.out; omega) (by rw [HA2.out]; exact E2.out)
  have e2 : (b : Int) + ((z : Int) - 1) = (a2 : Int) := by have := HA2.out; omega
  clear d2 O2 hb3
  go_wp2_with fail
  refine O3.out.mono ?_
  rintro _ w4 ⟨N3, rfl, hb4⟩
  have HB4 := hid (HB3.out.trans (hb4.mono HB3.out.size))
  have d4 := HCX.out w4 HB4.out
  have O4 := HOW w4 a3 151 HB4.out ha3 E3.out
  have e3 : ((b : Int) - 1) % 4294967296 = (a3 : Int) := HA3.out.symm
  clear d3 O3 hb4 e2
  go_upto_region 5 with fail
  go_wp2_with fail
  refine O4.out.mono ?_
  rintro _ w5 ⟨N4, rfl, hb5⟩
  have HB5 := hid (HB4.out.trans (hb5.mono HB4.out.size))
  have d5 := HCX.out w5 HB5.out
  have O5 := HOW w5 a4 151 HB5.out ha4 E4.out
  have e4 : ((b : Int) + (z : Int)) % 4294967296 = (a4 : Int) := HA4.out.symm
  clear d4 O4 hb5 e3
  go_upto_region 6 with fail
  go_wp2_with fail
  refine O5.out.mono ?_
  rintro _ w6 ⟨N5, rfl, hb6⟩
  have HB6 := hid (HB5.out.trans (hb6.mono HB5.out.size))
  have k0 : ∀ t : Beh w6, t.wd.cell? ⟨w.heap.size, 0, none⟩ = some (.int .u32 (b : Int)) := fun t => HCX.out t.wd (HB6.out.trans (t.ok.mono HB6.out.size))
  have HGB : ∀ t : Beh w6, Hid (Calls Try.prog 37 #[.pointer (some ⟨pb, 0, none⟩)] t.wd fun e w' => e = .returned (.int .u32 ((b : Int) + 1)) ∧ ∃ t' : Beh w6, w' = t'.wd) := fun t => (HGW t.wd (HB6.out.trans (t.ok.mono HB6.out.size))).out.mono fun e w' ⟨he, hw⟩ => ⟨by rw [he]; simp, t, hw⟩
  have hb32 : IntKind.u32.wrap ((b : Int) + 1) = (b : Int) + 1 := by rw [IntKind.wrap_u32]; omega
  clear d5 O5 hb6 e4
  go_upto_region 7 with fail
  refine wp_region_beh (by kernel_rfl) (by kernel_rfl) ?_
  repeat (go_big_quiet_step (first | (go_at_call 37; exact (HGB _).out)))
  refine wpQuiet_nil ?_
  rintro _ ⟨t, rfl⟩
  have HBt := hid (HB0.out.trans ((HB6.out.trans (t.ok.mono HB6.out.size)).mono HB0.out.size))
  clear k0
  go_wp2_with fail
  go_ret
  exact ⟨by simp, HBt.out⟩

theorem told_any (w : World) (pb bn ba : Nat) (s : Ist) (gb : Nat) (vp : Value) (h : IpAt w pb bn ba s) (hg : GvAt w gb vp s) :
    Calls Try.prog 26 #[.pointer (some ⟨gb, 0, none⟩), .pointer (some ⟨pb, 0, none⟩)] w fun e w' => e = .returned (.bool true) ∧ Below w.heap.size w w' := by
  have HIP : Hid (∀ u : World, Below w.heap.size w u → IpAt u pb bn ba s) := fun u hu => h.below hu
  have HGP : Hid (∀ u : World, Below w.heap.size w u → GvAt u gb vp s) := fun u hu => hg.below hu
  have HOK := hid h.ok
  have HL := hid (list_any w pb bn ba s h)
  obtain ⟨av, nv, cv, rfl, HNV, hnc, hcap, hnil⟩ := hg.own.shape
  have hle : nv ≤ 1024 := by have := h.ok.le; have := HNV.out; omega
  have HATI : ∀ (i : Nat) (p : Pod), s.S[i]? = some p → ∃ g, av = some ⟨g, 0, none⟩ ∧ Hid (∀ u : World, Below w.heap.size w u → u.cell? ⟨g, i * 2, none⟩ = some (.string p.nm) ∧ u.cell? ⟨g, i * 2 + 1, none⟩ = some (.int .u32 (p.ad : Int))) := fun i p hi => by
    obtain ⟨g, e, hg2, hcl2⟩ := hg.own.at hi
    exact ⟨g, e, fun u hu => ⟨(hcl2 u (hu.block g hg2)).1, (hcl2 u (hu.block g hg2)).2.1⟩⟩
  clear h hg hnil hcap
  go_enter Try.func26, Try.ntmps26
  go_wp2_with fail
  refine HL.out.mono ?_
  rintro _ w1 ⟨vl, L, rfl, ho1, hs1, hb1⟩
  obtain ⟨al, nl, cl, rfl, HNL, hnlc, hclm, -⟩ := ho1.shape
  have hnl : nl = nv := by rw [HNL.out, hs1.1.length_eq, HNV.out]
  subst hnl
  have c1 := (HGP.out w1 hb1).cells.1
  have HO1 := hid ho1
  have HS1 := hid hs1
  have HB1 := hid hb1
  clear HL ho1 hs1 hb1
  go_upto_region 5 with fail
  clear c1
  go_loopw [6] (fun i wr => ∃ k : Nat, i = .int .i64 (k : Int) ∧ k ≤ nl ∧ Hid (Below w1.heap.size w1 wr)) (fun i _ => nl - (intOf i).toNat)
  case atStart => exact ⟨0, rfl, Nat.zero_le _, Below.refl _ _⟩
  case round =>
    obtain ⟨k, rfl, hk, HBk⟩ := hrel
    have HBW := hid (HB1.out.trans (HBk.out.mono HB1.out.size))
    by_cases hlt : k < nl
    · have hlt' : (k : Int) < (nl : Int) := int_lt hlt
      obtain ⟨p, HX⟩ : ∃ p, Hid (L[k]? = some p) := ⟨_, hid (List.getElem?_eq_getElem (by have := HNL.out; omega))⟩
      have HPS : Hid (p ∈ s.S) := HS1.out.1.mem_iff.1 (List.mem_of_getElem? HX.out)
      obtain ⟨gl, rfl, hgl, hcl⟩ := HO1.out.at HX.out
      have HCL : Hid (∀ u : World, Below w1.heap.size w1 u → u.cell? ⟨gl, k * 2, none⟩ = some (.string p.nm) ∧ u.cell? ⟨gl, k * 2 + 1, none⟩ = some (.int .u32 (p.ad : Int))) := fun u hu => ⟨(hcl u (hu.block gl hgl)).1, (hcl u (hu.block gl hgl)).2.1⟩
      obtain ⟨d0, d1⟩ := HCL.out wr HBk.out
      have HAT := hid (gat_any wr gb _ s p.nm (HGP.out wr HBW.out))
      have HPA : Hid (p.ad < 4294967296) := by have := HOK.out.ar p HPS.out; have := HOK.out.be; unfold Hid; omega
      have HPM : Hid (p.nm.size ≤ maxLen) := by have := HOK.out.sm p HPS.out; unfold Hid maxLen; omega
      clear hcl hgl
      go_wp2_with fail
      refine HAT.out.mono ?_
      rintro _ _ ⟨⟨v, rfl, hv⟩, ew⟩
      obtain rfl := ew.symm
      obtain ⟨j, rfl, hj⟩ := hv.some (HOK.out.byN_mem HPS.out)
      obtain ⟨gv, rfl, HCV⟩ := HATI j p hj
      have hjl : j < nl := by have := (List.getElem?_eq_some_iff.1 hj).1; have := HNV.out; omega
      have hj1 : (j : Int) < (nl : Int) := int_lt hjl
      have hj2 : decide ((j : Int) < 0) = false := by simp
      have hj3 : ¬ (j : Int) < 0 := by omega
      clear ew hv HAT hj
      have kg : ∀ t : Beh wr, t.wd.cell? ⟨gb, 0, none⟩ = some (.slice (some ⟨gv, 0, none⟩) nl cv) := fun t => (HGP.out t.wd (HBW.out.trans (t.ok.mono HBW.out.size))).cells.1
      have kv : ∀ t : Beh wr, t.wd.cell? ⟨gv, j * 2 + 1, none⟩ = some (.int .u32 (p.ad : Int)) := fun t => (HCV.out t.wd (HBW.out.trans (t.ok.mono HBW.out.size))).2
      have kl : ∀ t : Beh wr, t.wd.cell? ⟨gl, k * 2 + 1, none⟩ = some (.int .u32 (p.ad : Int)) := fun t => (HCL.out t.wd (HBk.out.trans (t.ok.mono HBk.out.size))).2
      have hkn : decide ((k : Int) < 0) = false := by simp
      clear d0 d1
      go_upto_region 8 with fail
      go_cut [70] from 22 to 114 (fun c wx => c = .bool false ∧ Hid (Below wr.heap.size wr wx))
      case first =>
        by_cases hk0 : k = 0
        · have hk1 : decide (0 < k) = false := by rw [decide_eq_false_iff_not]; omega
          have hk2 : decide ((0 : Int) < (k : Int)) = false := by rw [decide_eq_false_iff_not]; omega
          have hk3 : ¬ 0 < k := by omega
          clear hk0
          refine wp_region_beh (by kernel_rfl) (by kernel_rfl) ?_
          repeat (go_big_quiet_step (fail))
          refine wpQuiet_nil ?_
          rintro _ ⟨t, rfl⟩
          have HT := hid t.ok
          clear kg kv kl
          go_wp2_with fail
          go_meet
          exact ⟨by simp, HT⟩
        · obtain ⟨m, HK1⟩ : ∃ m, Hid (k = m + 1) := ⟨k - 1, hid (by omega)⟩
          obtain ⟨q, HQ⟩ : ∃ q, Hid (L[m]? = some q) := ⟨_, hid (List.getElem?_eq_getElem (by have := HNL.out; have := HK1.out; omega))⟩
          obtain ⟨g2, e2, hg2, hcl2⟩ := HO1.out.at HQ.out
          simp only [Option.some.injEq, Addr.mk.injEq, and_true] at e2
          subst e2
          have km : ∀ t : Beh wr, t.wd.cell? ⟨gl, m * 2 + 1, none⟩ = some (.int .u32 (q.ad : Int)) := fun t => (hcl2 t.wd ((HBk.out.trans (t.ok.mono HBk.out.size)).block gl hg2)).2.1
          have hqp : q.ad < p.ad := by
            have h1 := (List.pairwise_iff_getElem.1 HS1.out.2) m k (List.getElem?_eq_some_iff.1 HQ.out).1 (List.getElem?_eq_some_iff.1 HX.out).1 (by have := HK1.out; omega)
            rw [(List.getElem?_eq_some_iff.1 HQ.out).2, (List.getElem?_eq_some_iff.1 HX.out).2] at h1
            exact h1
          have km1 : ((k : Int) - 1) = (m : Int) := by have := HK1.out; omega
          have km2 : IntKind.i64.wrap ((k : Int) - 1) = (m : Int) := by have := HK1.out; rw [IntKind.wrap_i64]; omega
          have km7 : 0 < k := by omega
          have hml : (m : Int) < (nl : Int) := by have := HK1.out; omega
          have hpq1 : decide (p.ad ≤ q.ad) = false := by rw [decide_eq_false_iff_not]; omega
          have hpq2 : decide ((p.ad : Int) ≤ (q.ad : Int)) = false := by rw [decide_eq_false_iff_not]; omega
          have hm0 : decide ((m : Int) < 0) = false := by simp
          clear hcl2 hg2 hk0
          refine wp_region_beh (by kernel_rfl) (by kernel_rfl) ?_
          repeat (go_big_quiet_step (fail))
          refine wpQuiet_nil ?_
          rintro _ ⟨t, rfl⟩
          have HT := hid t.ok
          clear kg kv kl km
          go_wp2_with fail
          go_meet
          exact ⟨by simp, HT⟩
      case rest =>
        obtain ⟨rfl, HT⟩ := hcut
        clear kg kv kl
        have HBC := hid (HBk.out.trans (HT.out.mono HBk.out.size))
        have HBD := hid (HB1.out.trans (HBC.out.mono HB1.out.size))
        obtain ⟨d0, d1⟩ := HCL.out wc HBC.out
        have HF := hid (find_any wc pb bn ba s p.nm (HIP.out wc HBD.out) HPM.out)
        have hfa : s.fnA p.nm = p.ad := by unfold Ist.fnA; rw [HOK.out.byN_mem HPS.out]; rfl
        have hfe : s.fnE p.nm = 0 := by unfold Ist.fnE; rw [HOK.out.byN_mem HPS.out]; rfl
        rw [hfa, hfe] at HF
        have HW := hid (owner_any wc pb bn ba s p.ad (HIP.out wc HBD.out) HPA.out)
        rw [(owE_some HOK.out HPS.out).1, (owE_some HOK.out HPS.out).2] at HW
        clear hfa hfe
        go_wp2_with fail
        refine HF.out.mono ?_
        rintro _ _ ⟨rfl, ew⟩
        obtain rfl := ew.symm
        clear ew HF
        go_wp2_with fail
        refine HW.out.mono ?_
        rintro _ w4 ⟨rfl, hb4⟩
        have HB4 := hid (HBC.out.trans (hb4.mono HBC.out.size))
        obtain ⟨m0, m1⟩ := HCL.out w4 HB4.out
        clear d0 d1 HW hb4
        go_wp2_with fail
        go_roundw
        case rel => exact ⟨k + 1, by go_num, hlt, HB4⟩
        case measure => simp [intOf]; omega
    · have hlt' : ¬ (k : Int) < (nl : Int) := int_nlt hlt
      go_wp2_with fail
      go_ret
      exact ⟨rfl, HBW.out⟩
end Go.Proofs.Ytjilahbkolcekab
