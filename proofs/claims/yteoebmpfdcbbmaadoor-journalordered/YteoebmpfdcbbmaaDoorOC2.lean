/-
  JournalOrdered: the walk.
-/
import Derived.Test.YteoebmpfdcbbmaaDoorOA2
namespace Go.Proofs.YteoebmpfdcbbmaaDoor
open Go.ChangeShapes Go.WideShapes Go.ChangeAt Go.RowKit Jn N
set_option maxHeartbeats 16000000
set_option maxRecDepth 100000

theorem field_ag (ga na ca gb nb cb : Nat) (u : World) : (Instr.field 33 (.agg #[.slice (some ⟨ga, 0, none⟩) na ca, .slice (some ⟨gb, 0, none⟩) nb cb]) 0).run Tryd.prog u = .ok (.slice (some ⟨ga, 0, none⟩) na ca) u := by kernel_rfl

theorem ordered_any (v0 : Value) (rs : List (List Nat)) (iz jz : Int) (w : World) (h0 : SeesBB w v0 rs) (hl : rs.length ≤ 8796093022208) (ht : TabN w) :
    Calls Tryd.prog 3 #[v0, .int .i64 iz, .int .i64 jz] w fun e w' => e = .returned (.bool true) ∧ Below w.heap.size w w' := by
  have HT := hid ht
  have HFI : Hid (∀ u, Below w.heap.size w u → Calls Tryd.prog 9 #[] u fun e w' => e = .returned (.bool true) ∧ Below u.heap.size u w') := fun u hu => first_any u (HT.out.below hu HT.out.2)
  have HZ : Hid (∀ u, Below w.heap.size w u → Calls Tryd.prog 10 #[v0] u fun e w' => e = .returned (.int .i64 (sizeZ rs)) ∧ w' = u) := fun u hu => sizeZ_any v0 rs u (h0.below hu) hl
  have HF0 := hid (HFI.out w (Below.refl _ _))
  have HV := hid h0
  obtain ⟨aa, n, ac, rfl, HN, hn1, hn2⟩ := h0.shape
  unfold maxLen at hn2
  clear h0 ht
  go_enter Tryd.func3, Tryd.ntmps3
  go_wp2_with fail
  refine HF0.out.mono ?_
  rintro _ u1 ⟨rfl, hb1⟩
  have HB1 := hid hb1
  clear hb1 HF0
  by_cases hi0 : iz < 0
  · have HFA := hid (HFI.out _ HB1.out)
    go_wp2_with fail
    refine HFA.out.mono ?_
    rintro _ u9 ⟨rfl, hb9⟩
    have HB9 : Hid (Below w.heap.size w u9) := HB1.out.trans (hb9.mono HB1.out.size)
    clear hb9
    go_wp2_with fail
    go_ret
    exact ⟨rfl, HB9.out⟩
  by_cases hji : jz ≤ iz
  · have HFA := hid (HFI.out _ HB1.out)
    go_wp2_with fail
    refine HFA.out.mono ?_
    rintro _ u9 ⟨rfl, hb9⟩
    have HB9 : Hid (Below w.heap.size w u9) := HB1.out.trans (hb9.mono HB1.out.size)
    clear hb9
    go_wp2_with fail
    go_ret
    exact ⟨rfl, HB9.out⟩
  by_cases hjn : (n : Int) ≤ jz
  · have HFA := hid (HFI.out _ HB1.out)
    go_wp2_with fail
    refine HFA.out.mono ?_
    rintro _ u9 ⟨rfl, hb9⟩
    have HB9 : Hid (Below w.heap.size w u9) := HB1.out.trans (hb9.mono HB1.out.size)
    clear hb9
    go_wp2_with fail
    go_ret
    exact ⟨rfl, HB9.out⟩
  by_cases hsm : sizeZ rs < 0
  · have HZ1 := hid (HZ.out _ HB1.out)
    go_wp2_with fail
    refine HZ1.out.mono ?_
    rintro _ ux ⟨rfl, rfl⟩
    have HFA := hid (HFI.out _ HB1.out)
    go_wp2_with fail
    refine HFA.out.mono ?_
    rintro _ u9 ⟨rfl, hb9⟩
    have HB9 : Hid (Below w.heap.size w u9) := HB1.out.trans (hb9.mono HB1.out.size)
    clear hb9
    go_wp2_with fail
    go_ret
    exact ⟨rfl, HB9.out⟩
  by_cases hsb : 100000 < sizeZ rs
  · have HZ1 := hid (HZ.out _ HB1.out)
    go_wp2_with fail
    refine HZ1.out.mono ?_
    rintro _ ux ⟨rfl, rfl⟩
    have HZ1 := hid (HZ.out _ HB1.out)
    go_wp2_with fail
    refine HZ1.out.mono ?_
    rintro _ uy ⟨rfl, rfl⟩
    have HFA := hid (HFI.out _ HB1.out)
    go_wp2_with fail
    refine HFA.out.mono ?_
    rintro _ u9 ⟨rfl, hb9⟩
    have HB9 : Hid (Below w.heap.size w u9) := HB1.out.trans (hb9.mono HB1.out.size)
    clear hb9
    go_wp2_with fail
    go_ret
    exact ⟨rfl, HB9.out⟩
  have HSH : Hid (∀ r ∈ rs, r.length ≤ 65536) := fun r hr => by
    by_cases h : r.length ≤ 65536
    · exact h
    · exfalso
      apply hsm
      unfold sizeZ
      rw [if_pos (List.any_eq_true.2 ⟨r, hr, by simp; omega⟩)]
      decide
  obtain ⟨sz, HSZ⟩ : ∃ sz, Hid (sz = 16 + baseL rs) := ⟨_, rfl⟩
  have hZe : sizeZ rs = (sz : Int) := by unfold sizeZ; rw [any_short HSH.out, if_neg (by decide), HSZ.out]
  rw [hZe] at HZ hsm hsb
  have hsz : sz ≤ 100000 := by omega
  have hn : n ≤ 8400 := by have := len_base rs; have := HN.out; have := HSZ.out; omega
  obtain ⟨i, rfl⟩ : ∃ i : Nat, iz = (i : Int) := ⟨iz.toNat, by omega⟩
  obtain ⟨j, rfl⟩ : ∃ j : Nat, jz = (j : Int) := ⟨jz.toNat, by omega⟩
  have hij : i < j := by omega
  have hjl : j < n := by omega
  clear hZe
  have HZ1 := hid (HZ.out _ HB1.out)
  go_wp2_with fail
  refine HZ1.out.mono ?_
  rintro _ ux ⟨rfl, rfl⟩
  have HZ1 := hid (HZ.out _ HB1.out)
  go_wp2_with fail
  refine HZ1.out.mono ?_
  rintro _ uy ⟨rfl, rfl⟩
  have HBG := hid (begun_any _ (HT.out.below HB1.out HT.out.2))
  go_wp2_with fail
  refine HBG.out.mono ?_
  rintro _ u3 ⟨p, q, S0, rfl, hJ0⟩
  have HJ0 := hid (hJ0.since HB1.out)
  have HA0 : Hid (Aps (rs.take 0) fl0) := aps_nil
  clear hJ0 HBG HB1
  go_wp2_with fail
  go_loopw [9] (fun i wr => ∃ (k : Nat) (S : Nat → Prop) (l : Lg), i = .int .i64 (k : Int) ∧ k ≤ n ∧ Hid (Jr w wr S p l) ∧ Hid (Aps (rs.take k) l)) (fun i _ => n - (intOf i).toNat)
  case atStart => exact ⟨0, S0, fl0, rfl, Nat.zero_le _, HJ0, HA0⟩
  case round =>
    obtain ⟨k, S, l, rfl, hk, HJ, HA⟩ := hrel
    clear HJ0 HA0
    have hwl : l.ws.length ≤ 9000 := by have := HA.out.ws; rw [List.length_take] at this; omega
    by_cases hlt : k < n
    · as_aux_lemma =>
        obtain ⟨g, off, x, L, rfl, hg, hc, hx, HX⟩ := (HV.out.below HJ.out.be).at k hlt
        have hLl := mem_base (List.mem_of_getElem? HX.out)
        have HSX : Hid (rs.take (k + 1) = rs.take k ++ [L]) := take_snoc HX.out
        have hbk : 16 + baseL (rs.take k) + (12 + L.length) ≤ sz := by
          have h1 := baseL_take rs (k + 1)
          rw [HSX.out, base_one] at h1
          have := HSZ.out
          omega
        have HAP := hid (HJ.out.app_ok HT.out hx (by omega) (HSH.out L (List.mem_of_getElem? HX.out)) (by rw [HA.out.size]; omega))
        obtain ⟨ax, nx, cx, rfl, -, -, -⟩ := hx.shape
        clear hx HX
        go_wp2_with fail
        refine HAP.out.mono ?_
        rintro _ u6 ⟨rfl, hL6⟩
        have H6 := hid (HJ.out.left hL6)
        have HA6 : Hid (Aps (rs.take (k + 1)) (l.app L)) := by unfold Hid; rw [HSX.out]; exact HA.out.app L
        clear hL6
        go_wp2_with fail
        go_roundw
        case rel => exact ⟨k + 1, _, _, by go_num, by omega, H6, HA6⟩
        case measure => simp [intOf]; omega
    · as_aux_lemma =>
        have hrs : rs.take k = rs := List.take_of_length_le (by have := HN.out; omega)
        rw [hrs] at HA
        clear hrs
        obtain ⟨ea, eb⟩ := Aps.syn HA.out
        have HSY := hid (sync_any _ p _ wr HJ.out.log HJ.out.ok (by omega))
        go_wp2_with fail
        refine HSY.out.mono ?_
        rintro _ u6 ⟨rfl, hL6⟩
        have H6 := hid (HJ.out.left hL6)
        have hcr := crash_any _ p _ 0 u6 H6.out.log H6.out.ok (by show (0 : Nat) ≤ _; omega) (by decide)
        rw [show ((0 : Int)).toNat = 0 from rfl, crash_zero, ea, eb] at hcr
        have HCR := hid hcr
        have HAB : Hid (∀ y ∈ arA rs, y < 256) := by have := H6.out.ok.ba; rw [ea] at this; exact this
        clear hL6 HSY ea eb hcr
        go_wp2_with fail
        refine HCR.out.mono ?_
        rintro _ u7 ⟨ga, na, ca, gb, nb, cb, rfl, hD⟩
        have HBE : Hid (Below w.heap.size w u7) := H6.out.be.trans (hD.be.mono H6.out.be.size)
        have HSA := hid (hD.a.sees HAB.out)
        obtain rfl : na = sz := by
          obtain ⟨_, _, _, e1, HNX, -, -⟩ := HSA.out.shape
          simp at e1
          obtain ⟨-, rfl, -⟩ := e1
          rw [HNX.out, arA_len, HSZ.out]
        have HZ7 := hid (HZ.out u7 HBE.out)
        have hfd := fun u => field_ag ga na ca gb nb cb u
        clear hD HCR HJ HA
        go_wp2_with fail
        refine HZ7.out.mono ?_
        rintro _ ux ⟨rfl, rfl⟩
        obtain ⟨pi, HPI⟩ : ∃ z, Hid (z = plc rs i) := ⟨_, rfl⟩
        obtain ⟨pj, HPJ⟩ : ∃ z, Hid (z = plc rs j) := ⟨_, rfl⟩
        obtain ⟨ei, HEI⟩ : ∃ z, Hid (z = plc rs (i + 1)) := ⟨_, rfl⟩
        obtain ⟨ej, HEJ⟩ : ∃ z, Hid (z = plc rs (j + 1)) := ⟨_, rfl⟩
        have HP1 := hid (place_any _ rs i ux (HV.out.below HBE.out) hl HSH.out (by have := HN.out; omega))
        have HP2 := hid (place_any _ rs j ux (HV.out.below HBE.out) hl HSH.out (by have := HN.out; omega))
        rw [← HPI.out] at HP1
        rw [← HPJ.out] at HP2
        have hei : ei ≤ pj := by rw [HEI.out, HPJ.out]; exact plc_mono rs hij
        have hej : ej ≤ na := by rw [HEJ.out, HSZ.out]; exact plc_le rs _
        obtain ⟨gi, oi, xi, ri, e1, hgi, hci, hxi, HXI⟩ := (HV.out.below HBE.out).at i (by omega)
        subst e1
        obtain ⟨gj, oj, xj, rj, e1, hgj, hcj, hxj, HXJ⟩ := (HV.out.below HBE.out).at j (by omega)
        simp at e1
        obtain ⟨rfl, rfl⟩ := e1
        obtain ⟨ai, ni, ci, rfl, HNI, -, -⟩ := hxi.shape
        obtain ⟨aj, nj, cj, rfl, HNJ, -, -⟩ := hxj.shape
        have hEI : ei = pi + 12 + ni := by rw [HEI.out, HPI.out, plc_next HXI.out, HNI.out]
        have hEJ : ej = pj + 12 + nj := by rw [HEJ.out, HPJ.out, plc_next HXJ.out, HNJ.out]
        have HEIZ : Hid ((pi : Int) + 12 + (ni : Int) = (ei : Int)) := by unfold Hid; omega
        have HEJZ : Hid ((pj : Int) + 12 + (nj : Int) = (ej : Int)) := by unfold Hid; omega
        have hpi : pi ≤ ei := by omega
        have hpj : pj ≤ ej := by omega
        have hnis : ni ≤ 100000 ∧ nj ≤ 100000 := by omega
        have HEIh := hid hEI
        have HEJh := hid hEJ
        have ki : ∀ u : Beh ux, u.wd.cell? ⟨gi, oi + i, none⟩ = some (.slice ai ni ci) := fun u => (u.ok.cell (p := ⟨gi, oi + i, none⟩) hgi).trans hci
        have kj : ∀ u : Beh ux, u.wd.cell? ⟨gi, oi + j, none⟩ = some (.slice aj nj cj) := fun u => (u.ok.cell (p := ⟨gi, oi + j, none⟩) hgi).trans hcj
        clear hxi hxj hEI hEJ
        go_wp2_with fail
        refine HP1.out.mono ?_
        rintro _ uy ⟨rfl, rfl⟩
        go_wp2_with fail
        refine HP2.out.mono ?_
        rintro _ uz ⟨rfl, rfl⟩
        go_upto_region 14 with fail
        refine wp_region_beh (by kernel_rfl) (by kernel_rfl) ?_
        repeat (go_big_quiet_step (fail))
        refine wpQuiet_nil ?_
        rintro _ ⟨t, rfl⟩
        obtain ⟨w9, hw9⟩ : ∃ w9, w9 = t.wd := ⟨_, rfl⟩
        have HB9 : Hid (Below uz.heap.size uz w9) := by rw [hw9]; exact t.ok
        rw [← hw9, HEIZ.out, HEJZ.out]
        clear hw9 ki kj t
        have HBE9 : Hid (Below w.heap.size w w9) := HBE.out.trans (HB9.out.mono HBE.out.size)
        have HSA9 := hid (HSA.out.below HB9.out)
        obtain ⟨o1, C1, k1⟩ := HSA9.out.high pi (pi : Int) rfl (by omega)
        obtain ⟨o2, C2, k2⟩ := HSA9.out.mid pj ej (pj : Int) (ej : Int) rfl rfl hpj hej
        obtain ⟨o3, C3, k3⟩ := HSA9.out.mid ei pj (ei : Int) (pj : Int) rfl rfl hei (by omega)
        obtain ⟨o4, C4, k4⟩ := HSA9.out.mid pi ei (pi : Int) (ei : Int) rfl rfl hpi (by omega)
        obtain ⟨o5, C5, k5⟩ := HSA9.out.low ej (ej : Int) rfl hej
        obtain ⟨o7, C7, k7⟩ := HSA9.out.low ei (ei : Int) rfl (by omega)
        obtain ⟨A, HAA⟩ : ∃ A, Hid (A = arA rs) := ⟨_, rfl⟩
        rw [← HAA.out] at C1 C2 C3 C4 C5 C7 HSA9
        have HAL : Hid (A.length = na) := by unfold Hid; rw [HAA.out, arA_len, HSZ.out]
        have lt_ : ∀ m, (A.take m).length ≤ 100000 := fun m => by rw [List.length_take]; have := HAL.out; omega
        have HLT := hid lt_
        have ld_ : ∀ m (L : List Nat), L.length ≤ 100000 → (L.drop m).length ≤ 100000 := fun m L h => by rw [List.length_drop]; omega
        have HLD := hid ld_
        clear lt_ ld_ HBE HSA HB9 HP1 HP2 HEIZ HEJZ
        go_upto_region 17 with (at_builtin; refine wpList_append_bytes rfl _ _ rfl w9.heap.size _ [] rfl (ownB_nil _ _) _ _ rfl C1.out ?d1 ?d2 ?_)
        case d1 => have := HLT.out pi; simp only [List.length_nil]; omega
        case d2 => exact Nat.le_refl _
        intro t1 w10 ho hb
        have O1 := hid ho
        have B1 := hid hb
        clear ho hb
        go_upto_region 18 with (at_builtin; refine wpList_append_bytes rfl _ _ rfl w9.heap.size _ _ rfl O1.out _ _ rfl (C2.out.below B1.out) ?d1 ?d2 ?_)
        case d1 => have := HLT.out pi; have := HLD.out pj _ (HLT.out ej); omega
        case d2 => exact B1.out.size
        intro t2 w11 ho hb
        have O2 := hid ho
        have B2 : Hid (Below w9.heap.size w9 w11) := B1.out.trans hb
        clear ho hb
        go_upto_region 19 with (at_builtin; refine wpList_append_bytes rfl _ _ rfl w9.heap.size _ _ rfl O2.out _ _ rfl (C3.out.below B2.out) ?d1 ?d2 ?_)
        case d1 => have := HLT.out pi; have := HLD.out pj _ (HLT.out ej); have := HLD.out ei _ (HLT.out pj); simp only [List.length_append]; omega
        case d2 => exact B2.out.size
        intro t3 w12 ho hb
        have O3 := hid ho
        have B3 : Hid (Below w9.heap.size w9 w12) := B2.out.trans hb
        clear ho hb
        go_upto_region 20 with (at_builtin; refine wpList_append_bytes rfl _ _ rfl w9.heap.size _ _ rfl O3.out _ _ rfl (C4.out.below B3.out) ?d1 ?d2 ?_)
        case d1 => have := HLT.out pi; have := HLD.out pj _ (HLT.out ej); have := HLD.out ei _ (HLT.out pj); have := HLD.out pi _ (HLT.out ei); simp only [List.length_append]; omega
        case d2 => exact B3.out.size
        intro t4 w13 ho hb
        have O4 := hid ho
        have B4 : Hid (Below w9.heap.size w9 w13) := B3.out.trans hb
        clear ho hb
        go_upto_region 21 with (at_builtin; refine wpList_append_bytes rfl _ _ rfl w9.heap.size _ _ rfl O4.out _ _ rfl (C5.out.below B4.out) ?d1 ?d2 ?_)
        case d1 => have := HLT.out pi; have := HLD.out pj _ (HLT.out ej); have := HLD.out ei _ (HLT.out pj); have := HLD.out pi _ (HLT.out ei); have := HLD.out ej A (by have := HAL.out; omega); simp only [List.length_append]; omega
        case d2 => exact B4.out.size
        intro t5 w14 ho hb
        have O5 := hid ho
        have B5 : Hid (Below w9.heap.size w9 w14) := B4.out.trans hb
        clear ho hb O1 O2 O3 O4 B1 B2 B3 B4
        go_upto_region 22 with (at_builtin; refine wpList_append_bytes rfl _ _ rfl w14.heap.size _ [] rfl (ownB_nil _ _) _ _ rfl (C1.out.below B5.out) ?d1 ?d2 ?_)
        case d1 => have := HLT.out pi; simp only [List.length_nil]; omega
        case d2 => exact Nat.le_refl _
        intro g1 w15 ho hb
        have G1 := hid ho
        have D1 := hid hb
        clear ho hb
        go_upto_region 23 with (at_builtin; refine wpList_append_bytes rfl _ _ rfl w14.heap.size _ _ rfl G1.out _ _ rfl (C7.out.below (B5.out.trans (D1.out.mono B5.out.size))) ?d1 ?d2 ?_)
        case d1 => have := HLT.out pi; have := HLD.out ei A (by have := HAL.out; omega); omega
        case d2 => exact D1.out.size
        intro g2 w16 ho hb
        have G2 := hid ho
        have D2 : Hid (Below w14.heap.size w14 w16) := D1.out.trans hb
        have B6 : Hid (Below w9.heap.size w9 w16) := B5.out.trans (D2.out.mono B5.out.size)
        have O6 := hid (O5.out.below D2.out)
        clear ho hb G1 D1 O5
        have by1 : ∀ m, ∀ y ∈ A.take m, y < 256 := fun m y hy => HAB.out y (by rw [← HAA.out]; exact List.mem_of_mem_take hy)
        have by2 : ∀ m, ∀ y ∈ A.drop m, y < 256 := fun m y hy => HAB.out y (by rw [← HAA.out]; exact List.mem_of_mem_drop hy)
        have by3 : ∀ m m', ∀ y ∈ (A.take m).drop m', y < 256 := fun m m' y hy => by1 m y (List.mem_of_mem_drop hy)
        have HTB : Hid (∀ y ∈ A.take pi ++ (A.take ej).drop pj ++ (A.take pj).drop ei ++ (A.take ei).drop pi ++ A.drop ej, y < 256) := fun y hy => by
          simp only [List.mem_append] at hy
          rcases hy with (((hy | hy) | hy) | hy) | hy
          · exact by1 _ y hy
          · exact by3 _ _ y hy
          · exact by3 _ _ y hy
          · exact by3 _ _ y hy
          · exact by2 _ y hy
        have HGB : Hid (∀ y ∈ A.take pi ++ A.drop ei, y < 256) := fun y hy => by
          rcases List.mem_append.1 hy with hy | hy
          · exact by1 _ y hy
          · exact by2 _ y hy
        have hrn : rs.length < 65536 := by have := HN.out; omega
        have HTE : Hid (opnE (A.take pi ++ (A.take ej).drop pj ++ (A.take pj).drop ei ++ (A.take ei).drop pi ++ A.drop ej) [] = true) := by
          unfold Hid
          have hx3 := HLD.out ei _ (HLT.out pj)
          have hx4 := HLD.out pi _ (HLT.out ei)
          have hx5 := HLD.out ej A (by have := HAL.out; omega)
          have e : (A.take ej).drop pj = frame 1 j rj := by rw [HAA.out, HEJ.out, HPJ.out]; exact arA_mid HXJ.out
          rw [List.append_assoc, List.append_assoc, List.append_assoc, e]
          have hrl := HSH.out rj (List.mem_of_getElem? HXJ.out)
          have := bad_st (rs := rs) (i := i) (k := j) (r := rj) (X := (A.take pj).drop ei ++ ((A.take ei).drop pi ++ A.drop ej)) HSH.out (by have := HN.out; omega) hrl (by omega) hrn (by omega) (by
            rw [← HPI.out, List.length_append, List.length_append]
            have := HEJh.out
            omega)
          rw [← HAA.out, ← HPI.out] at this
          exact this
        have HGE : Hid (opnE (A.take pi ++ A.drop ei) [] = true) := by
          unfold Hid
          obtain ⟨r2, hr2⟩ : ∃ r2, rs[i + 1]? = some r2 := ⟨_, List.getElem?_eq_getElem (by have := HN.out; omega)⟩
          have e : A.drop ei = frame 1 (i + 1) r2 ++ frames 1 (i + 1 + 1) (rs.drop (i + 1 + 1)) := by
            rw [HAA.out, HEI.out, arA_drop rs (i + 1) (by have := HN.out; omega), frames_cons hr2]
          have hdl := HLD.out ei A (by have := HAL.out; omega)
          rw [e, List.length_append, frame_len] at hdl
          have hpiz : pi ≤ 100000 := by omega
          have := bad_st (rs := rs) (i := i) (k := i + 1) (r := r2) (X := frames 1 (i + 1 + 1) (rs.drop (i + 1 + 1))) HSH.out (by have := HN.out; omega) (HSH.out r2 (List.mem_of_getElem? hr2)) (by omega) hrn (by omega) (by rw [← HPI.out]; omega)
          rw [← HAA.out, ← HPI.out] at this
          rw [e]
          exact this
        simp only [List.append_assoc] at HTB HTE
        have HO1 : Hid (Calls Tryd.prog 16 #[.agg #[t5, .slice none 0 0]] w16 fun e w' => e = .returned (.tuple #[.pointer none, .slice none 0 0, .int .i64 120]) ∧ Below w16.heap.size w16 w') := (open_any t5 (.slice none 0 0) _ [] w16 (O6.out.sees HTB.out) (sees_nil _) (HT.out.below (HBE9.out.trans (B6.out.mono HBE9.out.size)) HT.out.2)).mono fun e w' h => h.1 HTE.out
        have HBF : Hid (Below w.heap.size w w16) := HBE9.out.trans (B6.out.mono HBE9.out.size)
        obtain ⟨ta, tn, tc, rfl, -, -, -⟩ := (O6.out.sees HTB.out).shape
        have HGS := hid (G2.out.sees HGB.out)
        obtain ⟨ha, hn', hc', rfl, -, -, -⟩ := HGS.out.shape
        have HSF := hid (HSA9.out.below B6.out)
        clear by1 by2 by3 HTB HGB HTE O6 G2 C1 C2 C3 C4 C5 C7 k1 k2 k3 k4 k5 k7
        go_wp2_with fail
        refine HO1.out.mono ?_
        rintro _ w17 ⟨rfl, hb17⟩
        have HB17 : Hid (Below w.heap.size w w17) := HBF.out.trans (hb17.mono HBF.out.size)
        have HO2 : Hid (Calls Tryd.prog 16 #[.agg #[.slice ha hn' hc', .slice none 0 0]] w17 fun e w' => e = .returned (.tuple #[.pointer none, .slice none 0 0, .int .i64 120]) ∧ Below w17.heap.size w17 w') := (open_any _ (.slice none 0 0) _ [] w17 (HGS.out.below hb17) (sees_nil _) (HT.out.below HB17.out HT.out.2)).mono fun e w' h => h.1 HGE.out
        have HSF17 := hid (HSF.out.below hb17)
        clear hb17 HO1
        go_wp2_with fail
        refine HO2.out.mono ?_
        rintro _ w18 ⟨rfl, hb18⟩
        have HB18 : Hid (Below w.heap.size w w18) := HB17.out.trans (hb18.mono HB17.out.size)
        have HO3 : Hid (Calls Tryd.prog 16 #[.agg #[.slice (some ⟨ga, 0, none⟩) na ca, .slice none 0 0]] w18 fun e w' => ∃ p' v S Bd l', e = .returned (.tuple #[.pointer (some ⟨p', 0, none⟩), v, .int .i64 0]) ∧ Opened w18 w' S Bd p' v l' rs) := (open_any _ (.slice none 0 0) A [] w18 (HSF17.out.below hb18) (sees_nil _) (HT.out.below HB18.out HT.out.2)).mono fun e w' h => by
          obtain ⟨q1, q2⟩ := arA_open HSH.out (show 16 + baseL rs ≤ 1048576 by have := HSZ.out; omega)
          rw [← HAA.out] at q1 q2
          obtain ⟨p', v, S, Bd, h1, h2⟩ := h.2 q1
          rw [q2] at h2
          exact ⟨p', v, S, Bd, _, h1, h2⟩
        clear hb18 HO2
        go_wp2_with fail
        refine HO3.out.mono ?_
        rintro _ w19 ⟨p', vr, S', Bd', l', rfl, hO⟩
        have HB19 : Hid (Below w.heap.size w w19) := HB18.out.trans (hO.be.mono HB18.out.size)
        have HLS := hid (lists_eq _ _ _ w19 hO.recs.sees (HV.out.below HB19.out))
        obtain ⟨ar, nr, cr, rfl, -, -, -⟩ := hO.recs.sees.shape
        clear hO HO3
        go_wp2_with fail
        refine HLS.out.mono ?_
        rintro _ w20 ⟨rfl, hb20⟩
        have HB20 : Hid (Below w.heap.size w w20) := HB19.out.trans (hb20.mono HB19.out.size)
        clear hb20
        go_wp2_with fail
        go_ret
        exact ⟨rfl, HB20.out⟩
end Go.Proofs.YteoebmpfdcbbmaaDoor
