/-
  tables, the law: TablesHops' walk.
-/
import Derived.Test.YtpdokaoholifkabGreatLZA
namespace Go.Proofs.YtpdokaoholifkabGreat.Rt
open Go.Proofs.YtpdokaoholifkabGreat Go.ChangeShapes Go.WideShapes Go.ChangeAt Go.RowKit Go.Maps Tri N
set_option maxHeartbeats 4000000
set_option maxRecDepth 100000

theorem idxA {n cap g off j : Nat} (hm : j < n) (u : World) : (Instr.indexAt 66 (.slice (some ⟨g, off, none⟩) n cap) (.int .i64 (j : Int))).run Tryz.prog u = .ok (.pointer (some ⟨g, off + j, none⟩)) u := by
  have hu : Tryz.prog.underlying 66 = some (.slice 37) := by kernel_rfl
  have hsz : (sizeOf 37).run Tryz.prog u = .ok 1 u := by kernel_rfl
  simp [Instr.indexAt, run_underlying hu, asIntOf, go_sem, hsz, Result.andThen, hm, Addr.add]

theorem hops_walk (r n f : Int) (a : Option Addr) (l cp : Nat) (A : List Opv) (a' : Option Addr) (l' cp' : Nat) (_ : Unit) (w : World) (hs : SeesOp (fun c => c < w.heap.size) w a l A) (hA : ∀ o ∈ A, o.Ok) (hl : l ≤ 9223372036854775807) (hs' : SeesA w a' l') :
    Calls Tryz.prog 7 #[.agg #[.int .i64 r, .int .i64 n, .int .i64 f], .slice a l cp, .slice a' l' cp'] w fun e w' => e = .returned (.bool true) ∧ Below w.heap.size w w' := by
  obtain ⟨w1, HW1⟩ : ∃ w1, Hid (w1 = w.alloc (.cells #[.int .i64 r, .int .i64 n, .int .i64 f] 23)) := ⟨_, rfl⟩
  have hb1 : Below w.heap.size w w1 := by rw [HW1.out]; exact (Below.refl _ _).alloc (Nat.le_refl _) _
  have r1 : w1.heap[w.heap.size]? = some (.cells #[.int .i64 r, .int .i64 n, .int .i64 f] 23) := by rw [HW1.out]; exact heap_alloc_new w _
  have c0 : w1.cell? ⟨w.heap.size, 0, none⟩ = some (.int .i64 r) := by rw [cell_of_row _ _ _ _ _ _ r1]; rfl
  have c1 : w1.cell? ⟨w.heap.size, 1, none⟩ = some (.int .i64 n) := by rw [cell_of_row _ _ _ _ _ _ r1]; rfl
  have c2 : w1.cell? ⟨w.heap.size, 2, none⟩ = some (.int .i64 f) := by rw [cell_of_row _ _ _ _ _ _ r1]; rfl
  have HB1 := hid hb1
  have HNA := hid hs.1
  have HSA : Hid (SeesOp (fun c => c < w1.heap.size) w1 a l A) := (hs.below hb1).more fun c _ hc => Nat.lt_of_lt_of_le hc hb1.size
  have HSD := hid (hs'.below hb1)
  have hl2 := hs'.1
  have HA := hid hA
  have HC := hid (newK_any w1 r n f)
  clear hb1 r1 hs hs' hA
  go_enter Tryz.func7, Tryz.ntmps7
  go_upto_region 1 with fail
  rw [← HW1.out]
  clear HW1
  go_wp2_with fail
  refine HC.out.mono ?_
  intro e w2 hp
  by_cases hcap : Cap r n f
  · obtain ⟨b1, rfl, hk1, hb2⟩ := hp.1 hcap
    have HKK : Hid (∃ t, K1 w1 w2.heap.size w2 b1.kb t) := ⟨_, K1.new hk1 hb2⟩
    have HF := hid (first_any w2)
    generalize b1.kb = k1 at HKK ⊢
    obtain ⟨NN, HNN⟩ : ∃ NN, Hid (NN = w2.heap.size) := ⟨_, rfl⟩
    rw [← HNN.out] at HKK
    clear hp hk1 hb2 c0 c1 c2 HC hcap
    go_wp2_with fail
    refine HF.out.mono ?_
    rintro _ w4 ⟨rfl, hb4⟩
    have HI0 : Hid (∃ t, K1 w1 NN w4 k1 t) := by
      obtain ⟨t, ht⟩ := HKK.out
      exact ⟨t, ht.below hb4⟩
    clear hb4 HF HKK HNN
    go_upto_region 7 with fail
    go_loopw [9] (fun i wr => ∃ (j : Nat), i = .int .i64 (j : Int) ∧ j ≤ l ∧ Hid (∃ t, K1 w1 NN wr k1 t)) (fun i _ => l - (intOf i).toNat)
    case atStart => exact ⟨0, rfl, Nat.zero_le _, HI0⟩
    case round =>
    obtain ⟨j, rfl, hj, HI⟩ := hrel
    obtain ⟨t, ht⟩ := HI.out
    have HT := hid ht
    clear ht HI
    by_cases hlt : j < l
    · have hlt' : (j : Int) < (l : Int) := int_lt hlt
      have hj0 : (0 : Int) ≤ (j : Int) := by omega
      obtain ⟨o, HO⟩ : ∃ o, Hid (A[j]? = some o) := ⟨_, hid (List.getElem?_eq_getElem (by have := HNA.out; omega))⟩
      have hok := HA.out o (List.mem_of_getElem? HO.out)
      obtain ⟨g, off, rfl, hld⟩ := (HSA.out.below HT.out.bel).load HO.out
      obtain ⟨v0, v1, v2, v3, v4, v5, v6, v7, v8, v9, v10, v11, v12, v13, v14, v15, v16, v17, v18, HOC⟩ : ∃ v0 v1 v2 v3 v4 v5 v6 v7 v8 v9 v10 v11 v12 v13 v14 v15 v16 v17 v18, Hid (o.cells = #[v0, v1, v2, v3, v4, v5, v6, v7, v8, v9, v10, v11, v12, v13, v14, v15, v16, v17, v18]) := ⟨_, _, _, _, _, _, _, _, _, _, _, _, _, _, _, _, _, _, _, rfl⟩
      rw [HOC.out] at hld
      have HLD := hid hld
      obtain ⟨w5, HW5⟩ : ∃ w5, Hid (w5 = wr.alloc (.cells #[v0, v1, v2, v3, v4, v5, v6, v7, v8, v9, v10, v11, v12, v13, v14, v15, v16, v17, v18] 57)) := ⟨_, rfl⟩
      have HC5 := hid (HT.out.one (w' := w5) (by rw [HW5.out, HOC.out]) hok)
      clear hld
      go_wp2_with (first | (refine wpList_ld 57 ⟨g, off + j * 19, none⟩ (.tmp 39) rfl rfl HLD.out rfl ?_) | fail)
      rw [← HW5.out]
      refine HC5.out.mono ?_
      rintro _ w6 ⟨rfl, hk6, -⟩
      have HI8 : Hid (∃ t, K1 w1 NN w6 k1 t) := ⟨_, hk6⟩
      obtain ⟨q1, hq1⟩ : ∃ q1 : Int, q1 = (((if oneE t o = 0 then 1 else 0 : Nat)) : Int) := ⟨_, rfl⟩
      obtain ⟨q2, hq2⟩ : ∃ q2 : Int, q2 = oneE t o := ⟨_, rfl⟩
      rw [← hq1, ← hq2]
      clear hk6 HC5 HLD HT hq1 hq2 HW5 HOC hok
      go_wp2_with fail
      go_roundw
      case rel => exact ⟨j + 1, by go_num, hlt, HI8⟩
      case measure => simp [intOf]; omega
    · have hlt' : ¬ (j : Int) < (l : Int) := int_nlt hlt
      have HDA := hid HT.out.dump
      clear hlt
      go_wp2_with fail
      refine HDA.out.mono ?_
      rintro _ w7 ⟨_, rfl, x1, y1, z1, rfl, ⟨A1, o1, s1⟩, ⟨A2, o2, s2⟩, ⟨A3, o3, s3⟩, hb7⟩
      obtain ⟨hko, hkr⟩ := dump_ks HT.out.ok s1 s2 s3
      have HKR := hid hkr
      have HK7 := hid (HT.out.below hb7)
      have HX7 : Hid (Own kR w7 0 x1 A1 ∧ Own kN w7 0 y1 A2 ∧ Own kF w7 0 z1 A3) := ⟨(own_R.2 o1).low (Nat.zero_le _), (own_N.2 o2).low (Nat.zero_le _), (own_F.2 o3).low (Nat.zero_le _)⟩
      have HKO := hid hko
      have HO1 : Hid (x1.oneCell' = true ∧ y1.oneCell' = true ∧ z1.oneCell' = true) := by
        obtain ⟨_, _, _, rfl, -⟩ := (own_R.2 o1).shape
        obtain ⟨_, _, _, rfl, -⟩ := (own_N.2 o2).shape
        obtain ⟨_, _, _, rfl, -⟩ := (own_F.2 o3).shape
        exact ⟨rfl, rfl, rfl⟩
      clear o1 o2 o3 s1 s2 s3 hb7 hko hkr HDA HT
      go_upto_region 11 with (first | (refine wpList_alB rfl 63 #[.slice none 0 0, .slice none 0 0, .slice none 0 0] rfl (fun u => by kernel_rfl) ?_; intro w8 hb8 hs8 hr8) | (refine wpList_stB rfl 63 (.tmp 10) (.tmp 44) rfl w7.heap.size #[x1, y1, z1] rfl rfl _ hr8 (by kernel_rfl) rfl (by simp [HO1.out.1, HO1.out.2.1, HO1.out.2.2]) ?_; intro w9 hbt9 hr9) | fail)
      have hb9 : Below w7.heap.size w7 w9 := ⟨hbt9.os.trans hb8.os, hbt9.tape.trans hb8.tape, hbt9.output.trans hb8.output, Nat.le_trans hb8.size hbt9.size, fun k hk => (hbt9.block k (by omega) (by omega)).trans (hb8.block k hk)⟩
      obtain ⟨tb, HTB⟩ : ∃ tb, Hid (tb = w7.heap.size) := ⟨_, rfl⟩
      have HI9 : Hid (K1 w1 NN w9 k1 t ∧ Bx w9 tb ⟨x1, y1, z1⟩ ⟨A1, A2, A3, t.cr, t.cn, t.cf⟩) := ⟨HK7.out.below hb9, by rw [HTB.out]; exact hr9, HX7.out.1.below hb9, HX7.out.2.1.below hb9, HX7.out.2.2.below hb9, HKO.out⟩
      rw [← HTB.out]
      clear hb8 hs8 hr8 hbt9 hr9 hb9 HK7 HX7 HTB HKO
      go_upto_region 12 with fail
      go_loopw [11] (fun i wr => ∃ (j : Nat), i = .int .i64 (j : Int) ∧ j ≤ l' ∧ Hid (K1 w1 NN wr k1 t ∧ Bx wr tb ⟨x1, y1, z1⟩ ⟨A1, A2, A3, t.cr, t.cn, t.cf⟩)) (fun i _ => l' - (intOf i).toNat)
      case atStart => exact ⟨0, rfl, Nat.zero_le _, HI9⟩
      case round =>
      obtain ⟨j, rfl, hj, HI⟩ := hrel
      by_cases hlt : j < l'
      · have hlt' : (j : Int) < (l' : Int) := int_lt hlt
        have hj0 : (0 : Int) ≤ (j : Int) := by omega
        obtain ⟨g, off, x, rfl, hg, hx, hcx⟩ := (HSD.out.below HI.out.1.bel).2 j hlt
        have HX := hid hx
        have HG := hid hg
        have HC := hid (HI.out.1.resolve x)
        have HCX0 : Hid (∀ u : World, Below wr.heap.size wr u → u.cell? ⟨g, off + j, none⟩ = some (.int .u32 (x : Int))) := fun u hu => (hu.cell (p := ⟨g, off + j, none⟩) HG.out).trans hcx
        clear hx hg
        go_wp2_with fail
        refine HC.out.mono ?_
        rintro _ w2' ⟨r, hlr, rfl, hb2⟩
        obtain ⟨hs11, hone⟩ := hopS t r
        obtain ⟨hz, HHZ⟩ : ∃ hz, Hid (hz = (hopR t r).1) := ⟨_, rfl⟩
        obtain ⟨he, HHE⟩ : ∃ he, Hid (he = (hopR t r).2) := ⟨_, rfl⟩
        have HEQ : ∀ u : World, (Op.equalIn 10000 70 (.agg hz) (.agg hz)).run Tryz.prog u = .ok true u := fun u => by rw [HHZ.out]; exact eqH t r u
        rw [← HHZ.out] at hs11 hone
        have HS11 := hid hs11
        have HONE := hid hone
        have HINF : Hid ((Tryz.prog.info? 70).map (·.size) = some hz.size) := by unfold Hid; rw [HS11.out]; kernel_rfl
        have HLR := hid hlr
        have HB2 := hid hb2
        rw [← HHZ.out, ← HHE.out]
        clear hb2 hlr hs11 hone HC hcx
        have HEQH := hid HEQ
        clear HEQ
        go_upto_region 15 with (first | (refine wpList_alB rfl 70 hopZ rfl alloc_hop ?_; intro w3 hb3 hs3 hr3) | (refine wpList_stB rfl 70 (.tmp 12) (.tmp 58) rfl w2'.heap.size hz rfl rfl hopZ hr3 HINF.out (by rw [HS11.out]; rfl) HONE.out ?_; intro w6 hbt hr4) | fail)
        have hb4 : Below w2'.heap.size w2' w6 := ⟨hbt.os.trans hb3.os, hbt.tape.trans hb3.tape, hbt.output.trans hb3.output, Nat.le_trans hb3.size hbt.size, fun k hk => (hbt.block k (by omega) (by omega)).trans (hb3.block k hk)⟩
        have hb6 : Below wr.heap.size wr w6 := HB2.out.trans (hb4.mono HB2.out.size)
        have HH6 : Hid (w6.heap[w2'.heap.size]? = some (.cells hz 70)) := hr4
        have HI6 : Hid (K1 w1 NN w6 k1 t ∧ Bx w6 tb ⟨x1, y1, z1⟩ ⟨A1, A2, A3, t.cr, t.cn, t.cf⟩) := ⟨HI.out.1.below hb6, HI.out.2.below hb6⟩
        have HCX : Hid (∀ u : World, Below w6.heap.size w6 u → u.cell? ⟨g, off + j, none⟩ = some (.int .u32 (x : Int))) := fun u hu => HCX0.out u (hb6.trans (hu.mono hb6.size))
        have HLT : Hid (∀ u : World, Below w6.heap.size w6 u → (Instr.loadAt 63 (.pointer (some ⟨tb, 0, none⟩))).run Tryz.prog u = .ok (.agg #[x1, y1, z1]) u) := fun u hu => box_load (HI6.out.2.below hu).row Tryz.underlying63 rfl (by kernel_rfl)
        have HHP : Hid (∀ u : World, Below w6.heap.size w6 u → Calls Tryz.prog 23 #[.agg #[x1, y1, z1], .int .u32 (x : Int)] u fun e u' => e = .returned (.tuple #[.agg hz, .int .i64 he]) ∧ Below u.heap.size u u') := fun u hu => by
          have hbx := HI6.out.2.below hu
          refine (hop_any (s := ⟨A1, A2, A3, t.cr, t.cn, t.cf⟩) (v := ⟨x1, y1, z1⟩) u x hbx.r hbx.n hbx.f hbx.ok HX.out).mono ?_
          rintro e u' ⟨r', hl', rfl, hb⟩
          obtain ⟨e1, e2⟩ := HKR.out x r' hl'
          obtain rfl : r' = r := LR.one HI6.out.1.ok.rn HI6.out.1.ok.rk e1 HLR.out
          rw [e2, ← HHZ.out, ← HHE.out]
          exact ⟨rfl, hb⟩
        clear hb3 hs3 hr3 hbt hr4 hb4 hb6 HCX0 HB2 HI
        refine wp_region_all' 12 (fun i => ([some 61, some 62, some 63, some 64, some 65, some 66, some 60, some 67, some 68, some 14, none, some 15] : List (Option Tmp)).getD i none) (FT [.inl (.agg #[x1, y1, z1]), .inl (.slice (some ⟨g, off, none⟩) l' cp'), .inl (.int .i64 (j : Int)), .inl (.pointer (some ⟨g, off + j, none⟩)), .inl (.int .u32 (x : Int)), .inl (.tuple #[.agg hz, .int .i64 he]), .inl (.tuple #[.agg hz, .int .i64 he]), .inl (.agg hz), .inl (.int .i64 he), .inr (hopZ, 70), .inl (undef), .inl (.int .i64 he)] (w6.heap.size) [⟨10, false, 9, hz, 70⟩]) (IT w6 (w6.heap.size) [⟨10, false, 9, hz, 70⟩]) (RT [⟨10, false, 9, hz, 70⟩]) (by kernel_rfl) (by kernel_rfl) (it_start (fun q hq h => by simp only [List.mem_singleton] at hq; rw [hq] at h; cases h)) (FT.keeps _ _ _ _ _ (by kernel_rfl)) ?_ ?_
        · simp only [N.stepsAll]
          refine ⟨?_, ?_, ?_, ?_, ?_, ?_, ?_, ?_, ?_, ?_, ?_, ?_, trivial⟩
          · intro a u vs hI hold hdep
            exact ft_still (ex_load _ ⟨tb, 0, none⟩ (.tmp 10) _ rfl (hold 10 (dl_of (L := [some 61, some 62, some 63, some 64, some 65, some 66, some 60, some 67, some 68, some 14, none, some 15]) (by decide))) (HLT.out u (hI.below' (Nat.le_refl _) rfl))) rfl rfl rfl hI
          · intro a u vs hI hold hdep
            exact ft_still (ex_move (.tmp 2) _ rfl (hold 2 (dl_of (L := [some 61, some 62, some 63, some 64, some 65, some 66, some 60, some 67, some 68, some 14, none, some 15]) (by decide)))) rfl rfl rfl hI
          · intro a u vs hI hold hdep
            exact ft_still (ex_move (.tmp 11) _ rfl (hold 11 (dl_of (L := [some 61, some 62, some 63, some 64, some 65, some 66, some 60, some 67, some 68, some 14, none, some 15]) (by decide)))) rfl rfl rfl hI
          · intro a u vs hI hold hdep
            have d1 := hdep ⟨1, .data⟩ (by simp) rfl
            have d2 := hdep ⟨2, .data⟩ (by simp) rfl
            exact ft_still (ex_index _ (.tmp 62) (.tmp 63) _ _ _ rfl (ft_dep d1.1 (d1.2 62 rfl) rfl) (ft_dep d2.1 (d2.2 63 rfl) rfl) (idxA hlt u)) rfl rfl rfl hI
          · intro a u vs hI hold hdep
            have d3 := hdep ⟨3, .data⟩ (by simp) rfl
            exact ft_still (ex_load _ ⟨g, off + j, none⟩ (.tmp 64) _ rfl (ft_dep d3.1 (d3.2 64 rfl) rfl) (by have h := HCX.out u (hI.below' (Nat.le_refl _) rfl); simp [go_sem, h])) rfl rfl rfl hI
          · intro a u vs hI hold hdep
            have d0 := hdep ⟨0, .data⟩ (by simp) rfl
            have d4 := hdep ⟨4, .data⟩ (by simp) rfl
            have e0 : a.eval (.tmp 61) = .agg #[x1, y1, z1] := (ft_dep d0.1 (d0.2 61 rfl) rfl)
            have e1 : a.eval (.tmp 65) = .int .u32 (x : Int) := (ft_dep d4.1 (d4.2 65 rfl) rfl)
            refine wp_call 23 _ _ rfl (enters_of Tryz.func23 (by kernel_rfl) rfl) #[.agg #[x1, y1, z1], .int .u32 (x : Int)] (by simp only [List.map_toArray, List.map_cons, List.map_nil, e0, e1]) ?_
            exact ft_ret rfl rfl rfl hI (HHP.out u (hI.below' (Nat.le_refl _) rfl))
          · intro a u vs hI hold hdep
            have d5 := hdep ⟨5, .data⟩ (by simp) rfl
            exact ft_still (ex_move (.tmp 66) _ rfl (ft_dep d5.1 (d5.2 66 rfl) rfl)) rfl rfl rfl hI
          · intro a u vs hI hold hdep
            have d6 := hdep ⟨6, .data⟩ (by simp) rfl
            exact ft_still (ex_extract (.tmp 60) 0 _ _ rfl (ft_dep d6.1 (d6.2 60 rfl) rfl) rfl) rfl rfl rfl hI
          · intro a u vs hI hold hdep
            have d6 := hdep ⟨6, .data⟩ (by simp) rfl
            exact ft_still (ex_extract (.tmp 60) 1 _ _ rfl (ft_dep d6.1 (d6.2 60 rfl) rfl) rfl) rfl rfl rfl hI
          · intro a u vs hI hold hdep
            exact ft_alloc (ex_alloc u rfl (fun u => by kernel_rfl)) rfl rfl rfl hI (Nat.le_refl _)
          · intro a u vs hI hold hdep
            have d7 := hdep ⟨7, .data⟩ (by simp) rfl
            have dn := hdep ⟨9, .data⟩ (by simp) rfl
            obtain ⟨b, old, hx, hvk, hBg, hs, hg⟩ := ft_depN dn.1 (dn.2 14 rfl) rfl
            exact ft_new (k := 9) (row := hz) (T := 70) rfl rfl (by decide) hx hvk hBg (hs.trans (by rw [HS11.out]; rfl)) hg (ft_dep d7.1 (d7.2 67 rfl) rfl) (by simp) (fun q hq e => by simp only [List.mem_cons, List.not_mem_nil, or_false] at hq; rcases hq with rfl <;> first | rfl | (exact absurd e (by simp))) HINF.out HONE.out rfl (by kernel_rfl) hI
          · intro a u vs hI hold hdep
            have d8 := hdep ⟨8, .data⟩ (by simp) rfl
            exact ft_still (ex_assign (.tmp 68) _ rfl (ft_dep d8.1 (d8.2 68 rfl) rfl)) rfl rfl rfl hI
        intro vs u hI hF
        have e0 : vs 0 = .agg #[x1, y1, z1] := (hF 0 (by decide)).is rfl
        have e1 : vs 1 = .slice (some ⟨g, off, none⟩) l' cp' := (hF 1 (by decide)).is rfl
        have e2 : vs 2 = .int .i64 (j : Int) := (hF 2 (by decide)).is rfl
        have e3 : vs 3 = .pointer (some ⟨g, off + j, none⟩) := (hF 3 (by decide)).is rfl
        have e4 : vs 4 = .int .u32 (x : Int) := (hF 4 (by decide)).is rfl
        have e5 : vs 5 = .tuple #[.agg hz, .int .i64 he] := (hF 5 (by decide)).is rfl
        have e6 : vs 6 = .tuple #[.agg hz, .int .i64 he] := (hF 6 (by decide)).is rfl
        have e7 : vs 7 = .agg hz := (hF 7 (by decide)).is rfl
        have e8 : vs 8 = .int .i64 he := (hF 8 (by decide)).is rfl
        obtain ⟨b9, e9, hb9⟩ := (hF 9 (by decide)).newB rfl
        have e10 : vs 10 = undef := (hF 10 (by decide)).is rfl
        have e11 : vs 11 = .int .i64 he := (hF 11 (by decide)).is rfl
        obtain ⟨bb10, f10, st10⟩ := (hF 10 (by decide)).storedN (k := 9) (row := hz) (T := 70) (by simp)
        obtain rfl : b9 = bb10 := by rw [e9] at f10; simpa using f10
        clear f10
        have hch := hI.1
        clear hF
        simp only [putsO, List.range, List.range.loop, List.foldr, if_true, List.getD_cons_zero, List.getD_cons_succ, e0, e1, e2, e3, e4, e5, e6, e7, e8, e9, e11, Act.put, List.setIfInBounds_toArray, List.set_cons_zero, List.set_cons_succ]
        clear e0 e1 e2 e3 e4 e5 e6 e7 e8 e9 e10 e11
        have hb7 : Below w6.heap.size w6 u := hI.below' (Nat.le_refl _) rfl
        have hh7 := below_keeps hb7 HH6.out (Array.getElem?_eq_some_iff.1 HH6.out).1
        have HLD1 : Hid ((Instr.loadAt 70 (.pointer (some ⟨w2'.heap.size, 0, none⟩))).run Tryz.prog u = .ok (.agg hz) u) := box_load hh7 Tryz.underlying70 rfl HINF.out
        have HLD2 : Hid ((Instr.loadAt 70 (.pointer (some ⟨b9, 0, none⟩))).run Tryz.prog u = .ok (.agg hz) u) := box_load st10 Tryz.underlying70 rfl HINF.out
        have HI7 : Hid (K1 w1 NN u k1 t ∧ Bx u tb ⟨x1, y1, z1⟩ ⟨A1, A2, A3, t.cr, t.cn, t.cf⟩) := ⟨HI6.out.1.below hb7, HI6.out.2.below hb7⟩
        have heq := HEQH.out
        clear hb7 hh7 hch hI st10 hb9 HI6 HH6 HCX HLT HHP
        go_wp2_with (first | (refine wpList_ld 70 ⟨w2'.heap.size, 0, none⟩ (.tmp 12) rfl rfl HLD1.out rfl ?_) | (refine wpList_ld 70 ⟨b9, 0, none⟩ (.tmp 14) rfl rfl HLD2.out rfl ?_) | fail)
        go_roundw
        case rel => exact ⟨j + 1, by go_num, hlt, HI7⟩
        case measure => simp [intOf]; omega
      · have hlt' : ¬ (j : Int) < (l' : Int) := int_nlt hlt
        have HFIN : Hid (Below w.heap.size w wr) := HB1.out.trans (HI.out.1.bel.mono HB1.out.size)
        clear HI HI9
        go_wp2_with fail
        go_ret
        exact ⟨rfl, HFIN.out⟩
  · obtain ⟨rfl, ew⟩ := hp.2 hcap
    obtain rfl := ew.symm
    have HF := hid (first_any w1)
    clear hp ew hcap HC c0 c1 c2
    go_wp2_with fail
    refine HF.out.mono ?_
    rintro _ w4 ⟨rfl, hb4⟩
    have HFIN : Hid (Below w.heap.size w w4) := HB1.out.trans (hb4.mono HB1.out.size)
    clear hb4 HF
    go_wp2_with fail
    go_ret
    exact ⟨rfl, HFIN.out⟩
end Go.Proofs.YtpdokaoholifkabGreat.Rt
