/-
  readFrames: the walk.
-/
import Derived.Test.YteoebmpfdcbbmacDoorJG
namespace Go.Proofs.YteoebmpfdcbbmacDoor
open Go.ChangeShapes Go.WideShapes Go.ChangeAt Go.RowKit Jn
set_option maxHeartbeats 8000000
set_option maxRecDepth 100000

/-- What an area tells, as a value. -/
def ctV (st gen : Nat) (vr : Value) (fin : Nat) : Value := .agg #[.int .i64 (st : Int), .int .u32 (gen : Int), vr, .int .i64 (fin : Int)]

theorem rd_short {g base fin : Nat} {L : List Nat} {recs : List (List Nat)} {met : Bool} (h : L.length < 12) : rd g base L recs fin met = if met then ⟨3, g, recs, fin⟩ else ⟨1, 0, [], 0⟩ := by
  rw [rd, dif_pos h]
theorem rd_unfit {g base fin : Nat} {L : List Nat} {recs : List (List Nat)} {met : Bool} (h : ¬ L.length < 12) (hf : fits g recs.length L = false) : rd g base L recs fin met = ⟨1, 0, [], 0⟩ := by
  rw [rd, dif_neg h, if_pos hf]
theorem rd_torn {g base fin : Nat} {L : List Nat} {recs : List (List Nat)} {met : Bool} (h : ¬ L.length < 12) (hf : fits g recs.length L = true) (hn : L.length < 12 + num L 0) : rd g base L recs fin met = if met then ⟨3, g, recs, fin⟩ else ⟨1, 0, [], 0⟩ := by
  rw [rd, dif_neg h, if_neg (by rw [hf]; simp), if_pos hn]
theorem rd_bad {g base fin : Nat} {L : List Nat} {recs : List (List Nat)} {met : Bool} (h : ¬ L.length < 12) (hf : fits g recs.length L = true) (hn : ¬ L.length < 12 + num L 0) (hs : ¬ crc ((L.drop 12).take (num L 0)) = num L 4) : rd g base L recs fin met = ⟨1, 0, [], 0⟩ := by
  rw [rd, dif_neg h, if_neg (by rw [hf]; simp), if_neg hn, if_neg hs]
theorem rd_on {g base fin : Nat} {L : List Nat} {recs : List (List Nat)} {met : Bool} (h : ¬ L.length < 12) (hf : fits g recs.length L = true) (hn : ¬ L.length < 12 + num L 0) (hs : crc ((L.drop 12).take (num L 0)) = num L 4) : rd g base L recs fin met = rd g base (L.drop (12 + num L 0)) (recs ++ [(L.drop 12).take (num L 0)]) (fin + (12 + num L 0)) (met || fin + (12 + num L 0) == base) := by
  conv => lhs; rw [rd, dif_neg h, if_neg (by rw [hf]; simp), if_neg hn, if_pos hs]

theorem readFrames_any (v : Value) (b : List Nat) (base : Nat) (w0 w : World) (hv0 : SeesB w0 v b) (hb0 : Below w0.heap.size w0 w) (h16 : 16 ≤ b.length) (hlm : b.length ≤ 1048576) (_hbase : base ≤ 1048576) (ht : TabN w) :
    Calls Tryd.prog 61 #[v, .int .i64 (base : Int)] w fun e w' => ∃ vr, e = .returned (ctV (rd (num b 4) base (b.drop 16) [] 16 (16 == base)).st (rd (num b 4) base (b.drop 16) [] 16 (16 == base)).gen vr (rd (num b 4) base (b.drop 16) [] 16 (16 == base)).fin) ∧ RecsAt w0 w.heap.size w' vr (rd (num b 4) base (b.drop 16) [] 16 (16 == base)).recs ∧ Below w.heap.size w w' := by
  have hv := hv0.below hb0
  have hg4 := num_lt hv.bytes 4
  have HB0 := hid hb0
  have HWD : Hid (∀ u, Below w.heap.size w u → Calls Tryd.prog 60 #[v, .int .i64 4] u fun e w' => e = .returned (.int .u32 ((num b 4 : Nat) : Int)) ∧ Below u.heap.size u w') := fun u hu => word_any v b 4 u (hv.below hu) (by omega)
  obtain ⟨C, HC⟩ : ∃ C, Hid (C = rd (num b 4) base (b.drop 16) [] 16 (16 == base)) := ⟨_, rfl⟩
  rw [← HC.out]
  obtain ⟨ao, n, cap, rfl, HN, hn1, hn2⟩ := hv0.shape
  have hn16 : 16 ≤ n := by have := HN.out; omega
  have hnm : n ≤ 1048576 := by have := HN.out; omega
  have HV := hid hv0
  have HT := hid ht
  have hz := ht.2
  obtain ⟨g, HG⟩ : ∃ g, Hid (g = num b 4) := ⟨_, rfl⟩
  rw [← HG.out] at HWD hg4 HC
  unfold maxLen at hn2
  clear hv hv0 hb0 ht h16 hlm
  obtain ⟨w1, HW1⟩ : ∃ w1, Hid (w1 = w.alloc (.cells #[.int .i64 0, .int .u32 0, .slice none 0 0, .int .i64 0] 69)) := ⟨_, rfl⟩
  have hb1 : Below w.heap.size w w1 := by rw [HW1.out]; exact (Below.refl _ _).alloc (Nat.le_refl _) _
  have hs1 : w1.heap.size = w.heap.size + 1 := by rw [HW1.out]; simp
  have r1 : w1.heap[w.heap.size]? = some (ctRow 0 0 (.slice none 0 0) 0) := by rw [HW1.out]; exact heap_alloc_new w _
  have HB1 := hid hb1
  have R1 := hid r1
  clear hb1 r1
  go_enter Tryd.func61, Tryd.ntmps61
  go_wp2_with fail
  rw [← HW1.out]
  refine (HWD.out _ HB1.out).mono ?_
  rintro _ w2 ⟨rfl, hb2⟩
  obtain ⟨w3, HW3⟩ : ∃ w3, Hid (w3 = w2.alloc (.cells #[.int .i64 3, .int .u32 (g : Int), .slice none 0 0, .int .i64 16] 69)) := ⟨_, rfl⟩
  have hs2 := hb2.size
  obtain ⟨cb, HCB⟩ : ∃ cb, Hid (cb = w2.heap.size) := ⟨_, rfl⟩
  have HR : Hid (Rf w0 w w.heap.size cb g 16 (.slice none 0 0) [] w3) := by
    have hb3 : Below w2.heap.size w2 w3 := by rw [HW3.out]; exact (Below.refl _ _).alloc (Nat.le_refl _) _
    refine ⟨(HB1.out.trans (hb2.mono HB1.out.size)).trans (hb3.mono (by omega)), Nat.le_refl _, by rw [HCB.out]; omega, by rw [HCB.out]; omega, ?_, by rw [HCB.out, HW3.out]; exact heap_alloc_new w2 _, RecsAt.nil _ _ _⟩
    rw [hb3.block _ (by omega), hb2.block _ (by omega)]
    exact R1.out
  clear HWD hb2 hs2 hs1
  go_wp2_with fail
  rw [← HW3.out, ← HCB.out]
  have HM0 : Hid (((16 : Int) == (base : Int)) = (16 == base)) := by unfold Hid; rw [Bool.eq_iff_iff]; simp; omega
  rw [HM0.out]
  obtain ⟨m0, HM⟩ : ∃ m0 : Bool, Hid (m0 = (16 == base)) := ⟨_, rfl⟩
  rw [← HM.out] at HC ⊢
  have hwl : w.heap.size ≠ cb := HR.out.ne
  clear HW3 HCB HM0 HM R1 HB1 HW1
  go_loopw [6] (fun mt wr => ∃ (m : Bool) (fin nr : Nat) (ar : Option Addr) (cr : Nat) (recs : List (List Nat)), mt = .bool m ∧ fin ≤ n ∧ 12 * nr + 16 ≤ fin ∧ Hid (Rf w0 w w.heap.size cb g fin (.slice ar nr cr) recs wr) ∧ Hid (nr = recs.length) ∧ Hid (C = rd g base (b.drop fin) recs fin m) ∧ Hid (wr.heap[cb]? = some (ctRow 3 g (.slice ar nr cr) fin))) (fun _ wr => n - (match wr.cell? ⟨cb, 3, none⟩ with | some (.int _ z) => z.toNat | _ => 0))
  case atStart => exact ⟨m0, 16, 0, none, 0, [], rfl, hn16, by omega, HR, rfl, HC, HR.out.row⟩
  case round =>
    obtain ⟨m, fin, nr, ar, cr, recs, rfl, hfin, hnr, HRf, HNR, HRD, HROW⟩ := hrel
    clear HC HR
    obtain ⟨d0, d1, d2, d3, df⟩ := ct_cells HROW.out
    have D3 := hid d3
    by_cases h12 : fin + 12 ≤ n
    · obtain ⟨al, HSL, hcut⟩ := HV.out.low fin (fin : Int) rfl hfin
      have hLl : (b.drop fin).length = n - fin := by rw [List.length_drop, ← HN.out]
      obtain ⟨Lf, HLf⟩ : ∃ Lf, Hid (Lf = b.drop fin) := ⟨_, rfl⟩
      rw [← HLf.out] at hLl HSL HRD
      have HLL := hid hLl
      have HFF := hid (frameFits_any _ Lf g nr wr (HSL.out.below (HB0.out.trans (HRf.out.be.mono HB0.out.size))) (by omega) hg4 (by omega) (HT.out.below HRf.out.be hz))
      have HW0 : Hid (∀ u, Below w.heap.size w u → Calls Tryd.prog 60 #[.slice al (n - fin) (cap - fin), .int .i64 0] u fun e w' => e = .returned (.int .u32 ((num Lf 0 : Nat) : Int)) ∧ Below u.heap.size u w') := fun u hu => word_any _ Lf 0 u (HSL.out.below (HB0.out.trans (hu.mono HB0.out.size))) (by omega)
      have HW4 : Hid (∀ u, Below w.heap.size w u → Calls Tryd.prog 60 #[.slice al (n - fin) (cap - fin), .int .i64 4] u fun e w' => e = .returned (.int .u32 ((num Lf 4 : Nat) : Int)) ∧ Below u.heap.size u w') := fun u hu => word_any _ Lf 4 u (HSL.out.below (HB0.out.trans (hu.mono HB0.out.size))) (by omega)
      have hk0 := num_lt HSL.out.bytes 0
      have hk4 := num_lt HSL.out.bytes 4
      have hwr : IntKind.u32.wrap (nr : Int) = (nr : Int) := by rw [IntKind.wrap_u32']; omega
      have b1 : ¬ (n : Int) - (fin : Int) < 12 := by omega
      have b2 : (12 : Int) ≤ (n : Int) - (fin : Int) := by omega
      clear hLl
      cases hf : fits g nr Lf with
      | false =>
        rw [hf] at HFF
        have HE : Hid (C = ⟨1, 0, [], 0⟩) := by unfold Hid; rw [HRD.out]; exact rd_unfit (by have := HLL.out; omega) (by rw [← HNR.out]; exact hf)
        clear hf HRD
        go_wp2_with fail
        refine HFF.out.mono ?_
        rintro _ wx ⟨rfl, hbx⟩
        have HRx := hid (HRf.out.below hbx)
        obtain ⟨e0, e1, e2, e3, ef⟩ := ct_cells HRx.out.res
        clear hbx d0 d1 d2 d3 df
        go_wp2_with fail
        obtain ⟨hU, hkU⟩ := ct_put (C := #[.int .i64 ((0 : Nat) : Int), .int .u32 ((0 : Nat) : Int), .slice none 0 0, .int .i64 ((0 : Nat) : Int)]) rfl HRx.out.res (.int .i64 1) (.int .u32 0) (.slice none 0 0) (.int .i64 0)
        have HD := hid (HRx.out.done hkU).2
        generalize ((((wx.setCell ⟨w.heap.size, 0, none⟩ (.int .i64 1)).setCell ⟨w.heap.size, 1, none⟩ (.int .u32 0)).setCell ⟨w.heap.size, 2, none⟩ (.slice none 0 0)).setCell ⟨w.heap.size, 3, none⟩ (.int .i64 0)) = U at *
        have z0 : U.cell? ⟨w.heap.size, 0, none⟩ = some (.int .i64 1) := by rw [cell_of_row _ _ _ _ _ _ hU]; rfl
        have z1 : U.cell? ⟨w.heap.size, 1, none⟩ = some (.int .u32 0) := by rw [cell_of_row _ _ _ _ _ _ hU]; rfl
        have z2 : U.cell? ⟨w.heap.size, 2, none⟩ = some (.slice none 0 0) := by rw [cell_of_row _ _ _ _ _ _ hU]; rfl
        have z3 : U.cell? ⟨w.heap.size, 3, none⟩ = some (.int .i64 0) := by rw [cell_of_row _ _ _ _ _ _ hU]; rfl
        refine bodyPost_ret (v := .agg #[.int .i64 1, .int .u32 0, .slice none 0 0, .int .i64 0]) (by simp [results, Tryd.results61, go_sem, z0, z1, z2, z3]) rfl ⟨.slice none 0 0, ?_, ?_, HD.out⟩
        · rw [HE.out]; rfl
        · rw [HE.out]; exact RecsAt.nil _ _ _
      | true =>
        rw [hf] at HFF
        have HFT := hid hf
        clear hf
        obtain ⟨k0, HK0⟩ : ∃ k0, Hid (k0 = num Lf 0) := ⟨_, rfl⟩
        obtain ⟨k4, HK4⟩ : ∃ k4, Hid (k4 = num Lf 4) := ⟨_, rfl⟩
        rw [← HK0.out] at HW0 hk0
        rw [← HK4.out] at HW4 hk4
        go_wp2_with fail
        refine HFF.out.mono ?_
        rintro _ wx ⟨rfl, hbx⟩
        have HRx := hid (HRf.out.below hbx)
        clear hbx d0 d1 d2 d3 df
        go_wp2_with fail
        refine (HW0.out _ HRx.out.be).mono ?_
        rintro _ wy ⟨rfl, hby⟩
        have HRy := hid (HRx.out.below hby)
        clear hby
        by_cases htorn : n - fin < 12 + k0
        · have HEND : Hid (C = if m then ⟨3, g, recs, fin⟩ else ⟨1, 0, [], 0⟩) := by
            unfold Hid; rw [HRD.out]; exact rd_torn (by have := HLL.out; omega) (by rw [← HNR.out]; exact HFT.out) (by have := HLL.out; have := HK0.out; omega)
          have q1 : ((n - fin : Nat) : Int) < 12 + (k0 : Int) := by omega
          clear HRD
          cases m with
          | false =>
            have HE : Hid (C = ⟨1, 0, [], 0⟩) := by unfold Hid; rw [HEND.out]; rfl
            obtain ⟨e0, e1, e2, e3, ef⟩ := ct_cells HRy.out.res
            go_wp2_with fail
            obtain ⟨hU, hkU⟩ := ct_put (C := #[.int .i64 ((0 : Nat) : Int), .int .u32 ((0 : Nat) : Int), .slice none 0 0, .int .i64 ((0 : Nat) : Int)]) rfl HRy.out.res (.int .i64 1) (.int .u32 0) (.slice none 0 0) (.int .i64 0)
            have HD := hid (HRy.out.done hkU).2
            generalize ((((wy.setCell ⟨w.heap.size, 0, none⟩ (.int .i64 1)).setCell ⟨w.heap.size, 1, none⟩ (.int .u32 0)).setCell ⟨w.heap.size, 2, none⟩ (.slice none 0 0)).setCell ⟨w.heap.size, 3, none⟩ (.int .i64 0)) = U at *
            have z0 : U.cell? ⟨w.heap.size, 0, none⟩ = some (.int .i64 1) := by rw [cell_of_row _ _ _ _ _ _ hU]; rfl
            have z1 : U.cell? ⟨w.heap.size, 1, none⟩ = some (.int .u32 0) := by rw [cell_of_row _ _ _ _ _ _ hU]; rfl
            have z2 : U.cell? ⟨w.heap.size, 2, none⟩ = some (.slice none 0 0) := by rw [cell_of_row _ _ _ _ _ _ hU]; rfl
            have z3 : U.cell? ⟨w.heap.size, 3, none⟩ = some (.int .i64 0) := by rw [cell_of_row _ _ _ _ _ _ hU]; rfl
            refine bodyPost_ret (v := .agg #[.int .i64 1, .int .u32 0, .slice none 0 0, .int .i64 0]) (by simp [results, Tryd.results61, go_sem, z0, z1, z2, z3]) rfl ⟨.slice none 0 0, ?_, ?_, HD.out⟩
            · rw [HE.out]; rfl
            · rw [HE.out]; exact RecsAt.nil _ _ _
          | true =>
            have HE : Hid (C = ⟨3, g, recs, fin⟩) := by unfold Hid; rw [HEND.out]; rfl
            obtain ⟨e0, e1, e2, e3, ef⟩ := ct_cells HRy.out.res
            obtain ⟨d0, d1, d2, d3, df⟩ := ct_cells HRy.out.row
            go_wp2_with fail
            obtain ⟨hU, hkU⟩ := ct_put (C := #[.int .i64 ((0 : Nat) : Int), .int .u32 ((0 : Nat) : Int), .slice none 0 0, .int .i64 ((0 : Nat) : Int)]) rfl HRy.out.res (.int .i64 3) (.int .u32 (g : Int)) (.slice ar nr cr) (.int .i64 (fin : Int))
            have HD := hid (HRy.out.done hkU)
            generalize ((((wy.setCell ⟨w.heap.size, 0, none⟩ (.int .i64 3)).setCell ⟨w.heap.size, 1, none⟩ (.int .u32 (g : Int))).setCell ⟨w.heap.size, 2, none⟩ (.slice ar nr cr)).setCell ⟨w.heap.size, 3, none⟩ (.int .i64 (fin : Int))) = U at *
            have z0 : U.cell? ⟨w.heap.size, 0, none⟩ = some (.int .i64 3) := by rw [cell_of_row _ _ _ _ _ _ hU]; rfl
            have z1 : U.cell? ⟨w.heap.size, 1, none⟩ = some (.int .u32 (g : Int)) := by rw [cell_of_row _ _ _ _ _ _ hU]; rfl
            have z2 : U.cell? ⟨w.heap.size, 2, none⟩ = some (.slice ar nr cr) := by rw [cell_of_row _ _ _ _ _ _ hU]; rfl
            have z3 : U.cell? ⟨w.heap.size, 3, none⟩ = some (.int .i64 (fin : Int)) := by rw [cell_of_row _ _ _ _ _ _ hU]; rfl
            refine bodyPost_ret (v := .agg #[.int .i64 3, .int .u32 (g : Int), .slice ar nr cr, .int .i64 (fin : Int)]) (by simp [results, Tryd.results61, go_sem, z0, z1, z2, z3]) rfl ⟨.slice ar nr cr, ?_, ?_, HD.out.2⟩
            · rw [HE.out]; rfl
            · rw [HE.out]; exact HD.out.1
        · obtain ⟨am, HSM, hmid⟩ := HSL.out.mid 12 (12 + k0) 12 (12 + (k0 : Int)) rfl (by omega) (by omega) (by omega)
          have hrl : 12 + k0 - 12 = k0 := by omega
          have HRR : Hid ((Lf.take (12 + k0)).drop 12 = (Lf.drop 12).take (num Lf 0)) := by
            unfold Hid; rw [List.drop_take, hrl, HK0.out]
          rw [HRR.out, hrl] at HSM
          rw [hrl] at hmid
          clear hrl
          obtain ⟨r, HRE⟩ : ∃ r, Hid (r = (Lf.drop 12).take (num Lf 0)) := ⟨_, rfl⟩
          rw [← HRE.out] at HSM
          have HSU := hid (sumOf_any _ r wy (HSM.out.below (HB0.out.trans (HRy.out.be.mono HB0.out.size))) (HT.out.below HRy.out.be hz))
          have hcl := crc_lt r
          obtain ⟨cc, HCC⟩ : ∃ cc, Hid (cc = crc r) := ⟨_, rfl⟩
          rw [← HCC.out] at HSU hcl
          have q1 : ¬ ((n - fin : Nat) : Int) < 12 + (k0 : Int) := by omega
          by_cases hs : cc = k4
          · have HON : Hid (C = rd g base (b.drop (fin + (12 + k0))) (recs ++ [r]) (fin + (12 + k0)) (m || fin + (12 + k0) == base)) := by
              unfold Hid
              rw [HRD.out, rd_on (by have := HLL.out; omega) (by rw [← HNR.out]; exact HFT.out) (by have := HLL.out; have := HK0.out; omega) (by rw [← HRE.out, ← HCC.out, hs, HK4.out])]
              rw [← HRE.out, ← HK0.out, HLf.out, List.drop_drop]
            subst hs
            go_wp2_with fail
            refine HSU.out.mono ?_
            rintro _ wz ⟨rfl, rfl⟩
            go_wp2_with fail
            refine (HW4.out _ HRy.out.be).mono ?_
            rintro _ wq ⟨rfl, hbq⟩
            have HRq := hid (HRy.out.below hbq)
            obtain ⟨v', wp, hap, hrow, HNX⟩ := HRq.out.append HSM.out (by have := HNR.out; omega)
            have HAP := hid hap
            obtain ⟨f0, f1, f2, f3, ff⟩ := ct_cells hrow
            obtain ⟨e0, e1, e2, e3, ef⟩ := ct_cells HRq.out.row
            have HNX' := hid (HNX (fin + (12 + k0)))
            obtain ⟨wv, HWV⟩ : ∃ wv, Hid (wv = wq.alloc (.cells #[.slice am k0 (cap - fin - 12)] 22)) := ⟨_, rfl⟩
            rw [← HWV.out] at HAP
            have y2 : wv.cell? ⟨cb, 2, none⟩ = some (.slice ar nr cr) := by rw [HWV.out, World.cell?_alloc_lt _ _ _ (World.block_lt_of_cell? wq _ e2)]; exact e2
            obtain ⟨Vs2, ho2, hl2, -⟩ := (HNX (fin + (12 + k0))).own
            obtain ⟨an, nn, cn, rfl, HNN, -, -⟩ := ho2.shape
            have HNL : Hid (nn = (recs ++ [r]).length) := by unfold Hid; rw [HNN.out]; exact hl2
            have ec : ((fin + (12 + k0) : Nat) : Int) = (fin : Int) + (12 + (k0 : Int)) := by omega
            have HNX2 := hid HNX'.out
            rw [ec] at HNX2
            have HME : Hid (((wp.setCell ⟨cb, 2, none⟩ (.slice an nn cn)).setCell ⟨cb, 3, none⟩ (.int .i64 ((fin : Int) + (12 + (k0 : Int))))).cell? ⟨cb, 3, none⟩ = some (.int .i64 ((fin : Int) + (12 + (k0 : Int))))) := by
              have h := (ct_cells HNX2.out.row).2.2.2.1
              rw [ec] at h
              exact h
            have HQ : Hid (((fin : Int) + (12 + (k0 : Int)) == (base : Int)) = (fin + (12 + k0) == base)) := by unfold Hid; rw [Bool.eq_iff_iff]; simp; omega
            clear hbq hap hrow HNX HRD HNX' ho2 hl2 HNN ec
            cases m with
            | true =>
              rw [Bool.true_or] at HON
              go_upto_region 13 with (at_builtin; rw [← HWV.out]; refine wpList_append_run _ rfl _ _ 38 38 rfl _ _ rfl rfl HAP.out ?_)
              go_wp2_with fail
              go_roundw
              case rel => exact ⟨true, fin + (12 + k0), nn, an, cn, recs ++ [r], rfl, by omega, by have h1 := HNL.out; rw [List.length_append] at h1; have := HNR.out; simp at h1; omega, HNX2, HNL, HON, HNX2.out.row⟩
              case measure => rw [D3.out, HME.out]; simp; omega
            | false =>
              rw [Bool.false_or, ← HQ.out] at HON
              go_upto_region 13 with (at_builtin; rw [← HWV.out]; refine wpList_append_run _ rfl _ _ 38 38 rfl _ _ rfl rfl HAP.out ?_)
              go_wp2_with fail
              go_roundw
              case rel => exact ⟨_, fin + (12 + k0), nn, an, cn, recs ++ [r], rfl, by omega, by have h1 := HNL.out; rw [List.length_append] at h1; have := HNR.out; simp at h1; omega, HNX2, HNL, HON, HNX2.out.row⟩
              case measure => rw [D3.out, HME.out]; simp; omega
          · have HE : Hid (C = ⟨1, 0, [], 0⟩) := by
              unfold Hid
              rw [HRD.out]
              exact rd_bad (by have := HLL.out; omega) (by rw [← HNR.out]; exact HFT.out) (by have := HLL.out; have := HK0.out; omega) (by rw [← HRE.out, ← HCC.out, ← HK4.out]; exact hs)
            have q2 : ((cc : Int) == (k4 : Int)) = false := by simp; omega
            have q3 : ¬ ((cc : Int) = (k4 : Int)) := by omega
            clear HRD
            go_wp2_with fail
            refine HSU.out.mono ?_
            rintro _ wz ⟨rfl, rfl⟩
            go_wp2_with fail
            refine (HW4.out _ HRy.out.be).mono ?_
            rintro _ wq ⟨rfl, hbq⟩
            have HRq := hid (HRy.out.below hbq)
            obtain ⟨e0, e1, e2, e3, ef⟩ := ct_cells HRq.out.res
            clear hbq
            go_wp2_with fail
            obtain ⟨hU, hkU⟩ := ct_put (C := #[.int .i64 ((0 : Nat) : Int), .int .u32 ((0 : Nat) : Int), .slice none 0 0, .int .i64 ((0 : Nat) : Int)]) rfl HRq.out.res (.int .i64 1) (.int .u32 0) (.slice none 0 0) (.int .i64 0)
            have HD := hid (HRq.out.done hkU).2
            generalize ((((wq.setCell ⟨w.heap.size, 0, none⟩ (.int .i64 1)).setCell ⟨w.heap.size, 1, none⟩ (.int .u32 0)).setCell ⟨w.heap.size, 2, none⟩ (.slice none 0 0)).setCell ⟨w.heap.size, 3, none⟩ (.int .i64 0)) = U at *
            have z0 : U.cell? ⟨w.heap.size, 0, none⟩ = some (.int .i64 1) := by rw [cell_of_row _ _ _ _ _ _ hU]; rfl
            have z1 : U.cell? ⟨w.heap.size, 1, none⟩ = some (.int .u32 0) := by rw [cell_of_row _ _ _ _ _ _ hU]; rfl
            have z2 : U.cell? ⟨w.heap.size, 2, none⟩ = some (.slice none 0 0) := by rw [cell_of_row _ _ _ _ _ _ hU]; rfl
            have z3 : U.cell? ⟨w.heap.size, 3, none⟩ = some (.int .i64 0) := by rw [cell_of_row _ _ _ _ _ _ hU]; rfl
            refine bodyPost_ret (v := .agg #[.int .i64 1, .int .u32 0, .slice none 0 0, .int .i64 0]) (by simp [results, Tryd.results61, go_sem, z0, z1, z2, z3]) rfl ⟨.slice none 0 0, ?_, ?_, HD.out⟩
            · rw [HE.out]; rfl
            · rw [HE.out]; exact RecsAt.nil _ _ _
    · have HEND : Hid (C = if m then ⟨3, g, recs, fin⟩ else ⟨1, 0, [], 0⟩) := by
        unfold Hid; rw [HRD.out]; exact rd_short (by rw [List.length_drop]; have := HN.out; omega)
      have b1 : (n : Int) - (fin : Int) < 12 := by omega
      have b2 : ¬ (12 : Int) ≤ (n : Int) - (fin : Int) := by omega
      clear HRD
      cases m with
      | false =>
        have HE : Hid (C = ⟨1, 0, [], 0⟩) := by unfold Hid; rw [HEND.out]; rfl
        obtain ⟨e0, e1, e2, e3, ef⟩ := ct_cells HRf.out.res
        go_wp2_with fail
        obtain ⟨hU, hkU⟩ := ct_put (C := #[.int .i64 ((0 : Nat) : Int), .int .u32 ((0 : Nat) : Int), .slice none 0 0, .int .i64 ((0 : Nat) : Int)]) rfl HRf.out.res (.int .i64 1) (.int .u32 0) (.slice none 0 0) (.int .i64 0)
        have HD := hid (HRf.out.done hkU).2
        generalize ((((wr.setCell ⟨w.heap.size, 0, none⟩ (.int .i64 1)).setCell ⟨w.heap.size, 1, none⟩ (.int .u32 0)).setCell ⟨w.heap.size, 2, none⟩ (.slice none 0 0)).setCell ⟨w.heap.size, 3, none⟩ (.int .i64 0)) = U at *
        have z0 : U.cell? ⟨w.heap.size, 0, none⟩ = some (.int .i64 1) := by rw [cell_of_row _ _ _ _ _ _ hU]; rfl
        have z1 : U.cell? ⟨w.heap.size, 1, none⟩ = some (.int .u32 0) := by rw [cell_of_row _ _ _ _ _ _ hU]; rfl
        have z2 : U.cell? ⟨w.heap.size, 2, none⟩ = some (.slice none 0 0) := by rw [cell_of_row _ _ _ _ _ _ hU]; rfl
        have z3 : U.cell? ⟨w.heap.size, 3, none⟩ = some (.int .i64 0) := by rw [cell_of_row _ _ _ _ _ _ hU]; rfl
        refine bodyPost_ret (v := .agg #[.int .i64 1, .int .u32 0, .slice none 0 0, .int .i64 0]) (by simp [results, Tryd.results61, go_sem, z0, z1, z2, z3]) rfl ⟨.slice none 0 0, ?_, ?_, HD.out⟩
        · rw [HE.out]; rfl
        · rw [HE.out]; exact RecsAt.nil _ _ _
      | true =>
        have HE : Hid (C = ⟨3, g, recs, fin⟩) := by unfold Hid; rw [HEND.out]; rfl
        obtain ⟨e0, e1, e2, e3, ef⟩ := ct_cells HRf.out.res
        obtain ⟨d0, d1, d2, d3, df⟩ := ct_cells HRf.out.row
        go_wp2_with fail
        obtain ⟨hU, hkU⟩ := ct_put (C := #[.int .i64 ((0 : Nat) : Int), .int .u32 ((0 : Nat) : Int), .slice none 0 0, .int .i64 ((0 : Nat) : Int)]) rfl HRf.out.res (.int .i64 3) (.int .u32 (g : Int)) (.slice ar nr cr) (.int .i64 (fin : Int))
        have HD := hid (HRf.out.done hkU)
        generalize ((((wr.setCell ⟨w.heap.size, 0, none⟩ (.int .i64 3)).setCell ⟨w.heap.size, 1, none⟩ (.int .u32 (g : Int))).setCell ⟨w.heap.size, 2, none⟩ (.slice ar nr cr)).setCell ⟨w.heap.size, 3, none⟩ (.int .i64 (fin : Int))) = U at *
        have z0 : U.cell? ⟨w.heap.size, 0, none⟩ = some (.int .i64 3) := by rw [cell_of_row _ _ _ _ _ _ hU]; rfl
        have z1 : U.cell? ⟨w.heap.size, 1, none⟩ = some (.int .u32 (g : Int)) := by rw [cell_of_row _ _ _ _ _ _ hU]; rfl
        have z2 : U.cell? ⟨w.heap.size, 2, none⟩ = some (.slice ar nr cr) := by rw [cell_of_row _ _ _ _ _ _ hU]; rfl
        have z3 : U.cell? ⟨w.heap.size, 3, none⟩ = some (.int .i64 (fin : Int)) := by rw [cell_of_row _ _ _ _ _ _ hU]; rfl
        refine bodyPost_ret (v := .agg #[.int .i64 3, .int .u32 (g : Int), .slice ar nr cr, .int .i64 (fin : Int)]) (by simp [results, Tryd.results61, go_sem, z0, z1, z2, z3]) rfl ⟨.slice ar nr cr, ?_, ?_, HD.out.2⟩
        · rw [HE.out]; rfl
        · rw [HE.out]; exact HD.out.1

end Go.Proofs.YteoebmpfdcbbmacDoor
