import Derived.Test.YthmhiehglcfepaaGreatDoorEL
namespace Go.Proofs.YthmhiehglcfepaaGreatDoor.Fl
open Go.Proofs.YthmhiehglcfepaaGreatDoor Go.ChangeShapes Go.WideShapes Go.ChangeAt Go.RowKit Go.Maps N
open Go.Shelf Go.Lib
set_option maxHeartbeats 16000000
set_option maxRecDepth 100000

theorem ends_any (w : World) (pa ta : Option Addr) (pn pc tn tc : Nat) (now : Int) (ht : TabF w) (hp16 : S16 w pa pn) (ht64 : S64 w ta tn) (hpn : pn ≤ 9223372036854775807) (htn : tn ≤ 9223372036854775807) (hnow : Tm.In64 now) :
    Calls Tryz.prog 3 #[.slice pa pn pc, .slice ta tn tc, .int .i64 now] w fun e w' => e = .returned (.bool true) ∧ Below w.heap.size w w' := by
  have HBG := hid (begun_any w ht)
  obtain ⟨nw, HNW⟩ : ∃ nw : Int, Hid (nw = if now < -1152921504606846976 ∨ 1152921504606846976 < now then 9 else now) := ⟨_, rfl⟩
  have HNB : Hid (-1152921504606846976 ≤ nw ∧ nw ≤ 1152921504606846976) := by
    unfold Hid; rw [HNW.out]; split <;> omega
  have HP := hid hp16
  have HT := hid ht64
  have HTB := hid ht
  have HTL := hid (tab_lt ht)
  have hn1 := hnow.lo; have hn2 := hnow.hi
  clear ht hp16 ht64 hnow
  go_enter Tryz.func3, Tryz.ntmps3
  go_wp2_with fail
  refine HBG.out.mono ?_
  rintro _ w1 ⟨rfl, hb1⟩
  have HB1 := hid hb1
  clear hb1
  go_upto_region 4 with fail
  go_cut [31] from 26 (fun c wx => c = .bool (decide (now < -1152921504606846976 ∨ 1152921504606846976 < now)) ∧ wx = w1)
  case first =>
    by_cases h1 : now < -1152921504606846976
    · go_wp2_with fail
      go_meet
      exact ⟨by simp [h1], rfl⟩
    · by_cases h2 : 1152921504606846976 < now
      · go_wp2_with fail
        go_meet
        exact ⟨by simp [h2], rfl⟩
      · go_wp2_with fail
        go_meet
        exact ⟨by simp [h1, h2], rfl⟩
  case rest =>
  obtain ⟨rfl, hww⟩ := hcut
  obtain rfl : w1 = wc := hww.symm
  go_upto_if 31 with fail
  go_cut [2] from 26 (fun a wx => a = .int .i64 nw ∧ wx = w1)
  case first =>
    by_cases h : now < -1152921504606846976 ∨ 1152921504606846976 < now
    · have HE : Hid (nw = 9) := by unfold Hid; rw [HNW.out, if_pos h]
      have hd : decide (now < -1152921504606846976 ∨ 1152921504606846976 < now) = true := decide_eq_true h
      rw [hd]
      clear hd h
      go_wp2_with fail
      go_meet
      exact ⟨by rw [HE.out], rfl⟩
    · have HE : Hid (nw = now) := by unfold Hid; rw [HNW.out, if_neg h]
      have hd : decide (now < -1152921504606846976 ∨ 1152921504606846976 < now) = false := decide_eq_false h
      rw [hd]
      clear hd h
      go_wp2_with fail
      go_meet
      exact ⟨by rw [HE.out], rfl⟩
  case rest =>
  obtain ⟨rfl, hww⟩ := hcut
  obtain rfl : w1 = wc := hww.symm
  have hm1 : -1152921504606846976 ≤ nw := HNB.out.1
  have hm2 : nw ≤ 1152921504606846976 := HNB.out.2
  clear HNW hn1 hn2
  have HN := hid (new_good 40 w1 (by omega) (by omega) (HTB.out.below HB1.out))
  go_wp2_with fail
  refine HN.out.mono ?_
  rintro _ w2 ⟨b, F, rfl, hs, hF, hb2⟩
  have HE0 : Hid (E1 w w2 b q0 [] (.slice none 0 0) nw 0) := E1.start hs (fun k hk => Nat.le_trans HB1.out.size (hF k hk)) (HB1.out.trans (hb2.mono HB1.out.size)) HTL.out
  clear hs hF hb2
  go_wp2_with fail
  go_loopw [8, 11, 12] (fun nv wv iv wr => ∃ (i n : Nat) (a2 : Option Addr) (n2 c2 : Nat) (q : Raw) (L : List (Int × Fw)), nv = .int .i64 (n : Int) ∧ wv = .slice a2 n2 c2 ∧ iv = .int .i64 (i : Int) ∧ i ≤ pn ∧ n ≤ 40 ∧ Hid (n = L.length) ∧ Hid (E1 w wr b q L (.slice a2 n2 c2) nw i)) (fun _ _ iv _ => match iv with | .int _ z => pn - z.toNat | _ => 0)
  case atStart => exact ⟨0, 0, none, 0, 0, q0, [], rfl, rfl, rfl, Nat.zero_le _, by omega, rfl, HE0⟩
  case round =>
  obtain ⟨i, n, a2, n2, c2, q, L, rfl, rfl, rfl, hi, hn, HNL, HE⟩ := hrel
  go_upto_region 12 with fail
  go_cut [55] from 42 to 91 (fun c wx => c = .bool (decide (i < pn ∧ i < tn ∧ n < 40)) ∧ wx = wr)
  case first =>
    by_cases c1 : i < pn
    · have d1 : (i : Int) < (pn : Int) := by omega
      by_cases c2 : i < tn
      · have d2 : (i : Int) < (tn : Int) := by omega
        by_cases c3 : n < 40
        · have d3 : (n : Int) < 40 := by omega
          go_wp2_with fail
          go_meet
          exact ⟨by simp [c1, c2, c3], rfl⟩
        · have d3 : ¬ (n : Int) < 40 := by omega
          go_wp2_with fail
          go_meet
          exact ⟨by simp [c3], rfl⟩
      · have d2 : ¬ (i : Int) < (tn : Int) := by omega
        go_wp2_with fail
        go_meet
        exact ⟨by simp [c2], rfl⟩
    · have d1 : ¬ (i : Int) < (pn : Int) := by omega
      go_wp2_with fail
      go_meet
      exact ⟨by simp [c1], rfl⟩
  case rest =>
  obtain ⟨rfl, hww⟩ := hcut
  obtain rfl : wr = wc := hww.symm
  by_cases hc : i < pn ∧ i < tn ∧ n < 40
  · as_aux_lemma =>
      have hcd : decide (i < pn ∧ i < tn ∧ n < 40) = true := decide_eq_true hc
      rw [hcd]
      obtain ⟨k1, k2, k3⟩ := hc
      obtain ⟨g, off, x, rfl, hcx, hx⟩ := HT.out i k2
      obtain ⟨g', off', p, rfl, hcp, hp⟩ := HP.out i k1
      have ex : wr.cell? ⟨g, off + i, none⟩ = some (.int .i64 x) := cell_below HE.out.wd.bel hcx
      have ep : wr.cell? ⟨g', off' + i, none⟩ = some (.int .u16 (p : Int)) := cell_below HE.out.wd.bel hcp
      clear hcd hcx hcp
      have hx1 := hx.lo; have hx2 := hx.hi
      clear hx
      obtain ⟨t1, t2⟩ := tmod200 x
      go_upto_region 15 with fail
      generalize x.tmod 200 = y at *
      clear hx1 hx2 ex
      have HN3 : Hid ((wr.alloc (.cells #[.int .u32 0, .int .u32 0, .int .u8 0, .int .u16 0, .int .u16 0] 34)).heap[wr.heap.size]? = some (.cells zTu.cells 34 (0, 0))) := heap_alloc_new _ _
      go_upto_region 16 with (first | (refine wpList_st rfl 34 (.tmp 14) (.tmp 67) rfl wr.heap.size (xE p).cells rfl rfl _ zTu.cells HN3.out (by kernel_rfl) rfl (Tu.one _) ?_; intro w3 hw3 hbut3) | fail)
      have hb3 : Below wr.heap.size wr w3 := hbut3.below ((Below.refl _ _).alloc (Nat.le_refl _) _) (by simp) (Nat.le_refl _)
      obtain ⟨g14, HG14⟩ : ∃ g, Hid (g = wr.heap.size) := ⟨_, rfl⟩
      rw [← HG14.out] at hw3 ⊢
      have HW3 := hid (HE.out.wd.below hb3)
      have HX3 : Hid (∀ u : World, Below w3.heap.size w3 u → (Instr.loadAt 34 (.pointer (some ⟨g14, 0, none⟩))).run Tryz.prog u = .ok (.agg (xE p).cells) u) := fun u hu => load_tu (below_keeps hu hw3 (Array.getElem?_eq_some_iff.1 hw3).1)
      have HPO := hid (xE_ok hp)
      have HR3 := hid hw3
      have HB3 := hid hb3
      clear hw3 hbut3 hb3 HN3 ep
      obtain ⟨X, HX⟩ : ∃ X, Hid (X = xE p) := ⟨_, rfl⟩
      rw [← HX.out] at HX3 HPO HR3
      refine wp_region_guarded' 9 (fun i => ([68, 69, 70, 71, 72, 73, 74, 75, 76] : List Tmp).getD i 0) (FM [.pointer (some ⟨b, 0, none⟩), .agg X.cells, .agg X.cells, .agg X.back.cells, .agg X.cells, undef, .int .i64 nw, .int .i64 y, .int .i64 (nw + y)] 5 (mdH X) (mdB X 0)) (fun u => Below w3.heap.size w3 u) (fun _ u u' => Below u.heap.size u u') (by kernel_rfl) (by kernel_rfl) ⟨rfl, rfl, rfl, Nat.le_refl _, fun _ _ => rfl⟩ (fun _ _ _ _ _ _ h _ hr => h.keeps hr) ?_ ?_
      · simp only [List.take_succ_cons, List.take_zero, stepsG]
        refine ⟨?_, ?_, ?_, ?_, ?_, ?_, ?_, ?_, ?_, trivial⟩
        · intro a u vs hI hold hdep
          exact opAt_plain rfl (fm_still (ex_move (.tmp 9) _ rfl (hold 9 (dlM (L := [68, 69, 70, 71, 72, 73, 74, 75, 76]) (by decide)))) (by decide) rfl rfl hI)
        · intro a u vs hI hold hdep
          exact opAt_plain rfl (fm_still (ex_load _ ⟨g14, 0, none⟩ (.tmp 14) _ rfl (hold 14 (dlM (L := [68, 69, 70, 71, 72, 73, 74, 75, 76]) (by decide))) (HX3.out u hI)) (by decide) rfl rfl hI)
        · intro a u vs hI hold hdep
          exact opAt_plain rfl (fm_still (ex_load _ ⟨g14, 0, none⟩ (.tmp 14) _ rfl (hold 14 (dlM (L := [68, 69, 70, 71, 72, 73, 74, 75, 76]) (by decide))) (HX3.out u hI)) (by decide) rfl rfl hI)
        · intro a u vs hI hold hdep
          have e0 : a.eval (.tmp 70) = .agg X.cells := (FM.dep (hdep ⟨2, .data⟩ (by simp) rfl (by decide)) (by decide) rfl)
          refine opAt_plain rfl ?_
          refine wp_call 11 _ _ rfl (enters_of Tryz.func11 (by kernel_rfl) rfl) #[.agg X.cells] (by simp only [List.map_toArray, List.map_cons, List.map_nil, e0]) ?_
          refine (back_any X u).mono ?_
          rintro _ u' ⟨rfl, hb'⟩
          exact ⟨_, rfl, _, rfl, fm_mk (by decide) rfl, hI.trans (hb'.mono hI.size), hb'⟩
        · intro a u vs hI hold hdep
          exact opAt_plain rfl (fm_still (ex_load _ ⟨g14, 0, none⟩ (.tmp 14) _ rfl (hold 14 (dlM (L := [68, 69, 70, 71, 72, 73, 74, 75, 76]) (by decide))) (HX3.out u hI)) (by decide) rfl rfl hI)
        · intro a u vs hI hold hdep
          have e0 : a.eval (.tmp 72) = .agg X.cells := (FM.dep (hdep ⟨4, .data⟩ (by simp) rfl (by decide)) (by decide) rfl)
          have e1 : a.eval (.const (.int .u8 (0 : Int))) = .int .u8 (0 : Int) := rfl
          refine opAt_plain rfl ?_
          refine wp_call 12 _ _ rfl (enters_of Tryz.func12 (by kernel_rfl) rfl) #[.agg X.cells, .int .u8 (0 : Int)] (by simp only [List.map_toArray, List.map_cons, List.map_nil, e0, e1]) ?_
          refine (made_sees X 0 u HPO.out (by omega)).mono ?_
          rintro _ u' ⟨ao, n, cap, rfl, hs', hb'⟩
          exact ⟨_, rfl, _, rfl, fm_made rfl hs', hI.trans (hb'.mono hI.size), hb'⟩
        · intro a u vs hI hold hdep
          exact opAt_plain rfl (fm_still (ex_move (.tmp 2) _ rfl (hold 2 (dlM (L := [68, 69, 70, 71, 72, 73, 74, 75, 76]) (by decide)))) (by decide) rfl rfl hI)
        · intro a u vs hI hold hdep
          exact opAt_plain rfl (fm_still (ex_move (.tmp 13) _ rfl (hold 13 (dlM (L := [68, 69, 70, 71, 72, 73, 74, 75, 76]) (by decide)))) (by decide) rfl rfl hI)
        · intro a u vs hI hold hdep
          exact opAt_plain rfl (fm_still (ex_addI (.tmp 74) (.tmp 75) _ nw y rfl (FM.dep (hdep ⟨6, .data⟩ (by simp) rfl (by decide)) (by decide) rfl) (FM.dep (hdep ⟨7, .data⟩ (by simp) rfl (by decide)) (by decide) rfl) (by omega) (by omega)) (by decide) rfl rfl hI)
      intro vs u hI hF
      have e0 : vs 0 = .pointer (some ⟨b, 0, none⟩) := (hF 0 (by decide)).is (by decide) rfl
      have e1 : vs 1 = .agg X.cells := (hF 1 (by decide)).is (by decide) rfl
      have e2 : vs 2 = .agg X.cells := (hF 2 (by decide)).is (by decide) rfl
      have e3 : vs 3 = .agg X.back.cells := (hF 3 (by decide)).is (by decide) rfl
      have e4 : vs 4 = .agg X.cells := (hF 4 (by decide)).is (by decide) rfl
      have hM := (hF 5 (by decide)).made rfl
      have e6 : vs 6 = .int .i64 nw := (hF 6 (by decide)).is (by decide) rfl
      have e7 : vs 7 = .int .i64 y := (hF 7 (by decide)).is (by decide) rfl
      have e8 : vs 8 = .int .i64 (nw + y) := (hF 8 (by decide)).is (by decide) rfl
      clear hF
      simp only [List.drop_succ_cons, List.drop_zero, puts, List.range, List.range.loop, List.foldr, if_true, List.getD_cons_zero, List.getD_cons_succ, e0, e1, e2, e3, e4, e6, e7, e8, Act.put, List.setIfInBounds_toArray, List.set_cons_zero, List.set_cons_succ]
      clear e0 e1 e2 e3 e4 e6 e7 e8
      obtain ⟨ao, nx, cx, hM5, hse⟩ := hM
      rw [hM5]
      have hbu : Below wr.heap.size wr u := HB3.out.trans (hI.mono HB3.out.size)
      have hlq : q.last ≤ 1000 := by rw [HE.out.la]; have := HNL.out; omega
      have HOPEN := hid (HE.out.wd.open hbu hlq HPO.out (by rw [HX.out]; rfl) (now := nw + y) ⟨by omega, by omega⟩ ao nx cx hse)
      have HXU := hid (HX3.out u hI)
      have HRU : Hid (u.heap[g14]? = some (.cells X.cells 34 (0, 0)) ∧ wr.heap.size ≤ g14) := ⟨below_keeps hI HR3.out (Array.getElem?_eq_some_iff.1 HR3.out).1, by rw [HG14.out]; exact Nat.le_refl _⟩
      clear hI hM5 hse hlq hbu
      go_wp2_with fail
      refine HOPEN.out.mono ?_
      rintro _ w5 ⟨err, q', L', rfl, hw5, hk5, herr, h0, h1⟩
      have HR5 : Hid (w5.heap[g14]? = some (.cells X.cells 34 (0, 0))) := (hk5 g14 HRU.out.2 (Array.getElem?_eq_some_iff.1 HRU.out.1).1).trans HRU.out.1
      have HX5 : Hid (∀ v : World, Below w5.heap.size w5 v → (Instr.loadAt 34 (.pointer (some ⟨g14, 0, none⟩))).run Tryz.prog v = .ok (.agg X.cells) v) := fun v hv => load_tu (below_keeps hv HR5.out (Array.getElem?_eq_some_iff.1 HR5.out).1)
      have HW5 := hid hw5
      have HER := hid herr
      by_cases e0 : err = 0
      · as_aux_lemma =>
          subst e0
          obtain ⟨rfl, hla⟩ := h0 rfl
          have HLA := hid hla
          clear hw5 herr h0 h1 hla hk5 HOPEN HXU
          go_upto_region 18 with fail
          refine wp_region_guarded' 10 (fun i => ([81, 82, 83, 84, 85, 86, 87, 88, 89, 90] : List Tmp).getD i 0) (FS [.slice a2 n2 c2, .agg X.cells, .agg X.cells, .agg X.back.cells, .int .i64 nw, .int .i64 y, .int .i64 (nw + y), .int .i64 (nw + y + 30), .agg (Fw.cells ⟨X, X.back, 1, nw + y + 30⟩), undef] 9 (⟨X, X.back, 1, nw + y + 30⟩) (())) (fun u => Below w5.heap.size w5 u) (fun _ u u' => Below u.heap.size u u') (by kernel_rfl) (by kernel_rfl) ⟨rfl, rfl, rfl, Nat.le_refl _, fun _ _ => rfl⟩ (fun _ _ _ _ _ _ h _ hr => h.keeps hr) ?_ ?_
          · simp only [List.take_succ_cons, List.take_zero, stepsG]
            refine ⟨?_, ?_, ?_, ?_, ?_, ?_, ?_, ?_, ?_, ?_, trivial⟩
            · intro a u vs hI hold hdep
              exact opAt_plain rfl (fs_still (ex_move (.tmp 11) _ rfl (hold 11 (dlM (L := [81, 82, 83, 84, 85, 86, 87, 88, 89, 90]) (by decide)))) (by decide) rfl rfl hI)
            · intro a u vs hI hold hdep
              exact opAt_plain rfl (fs_still (ex_load _ ⟨g14, 0, none⟩ (.tmp 14) _ rfl (hold 14 (dlM (L := [81, 82, 83, 84, 85, 86, 87, 88, 89, 90]) (by decide))) (HX5.out _ hI)) (by decide) rfl rfl hI)
            · intro a u vs hI hold hdep
              exact opAt_plain rfl (fs_still (ex_load _ ⟨g14, 0, none⟩ (.tmp 14) _ rfl (hold 14 (dlM (L := [81, 82, 83, 84, 85, 86, 87, 88, 89, 90]) (by decide))) (HX5.out _ hI)) (by decide) rfl rfl hI)
            · intro a u vs hI hold hdep
              have e0 : a.eval (.tmp 83) = .agg X.cells := (FS.dep (hdep ⟨2, .data⟩ (by simp) rfl (by decide)) (by decide) rfl)
              refine opAt_plain rfl ?_
              refine wp_call 11 _ _ rfl (enters_of Tryz.func11 (by kernel_rfl) rfl) #[.agg X.cells] (by simp only [List.map_toArray, List.map_cons, List.map_nil, e0]) ?_
              refine (back_any X u).mono ?_
              rintro _ u' ⟨rfl, hb'⟩
              exact ⟨_, rfl, _, rfl, fs_mk (by decide) rfl, hI.trans (hb'.mono hI.size), hb'⟩
            · intro a u vs hI hold hdep
              exact opAt_plain rfl (fs_still (ex_move (.tmp 2) _ rfl (hold 2 (dlM (L := [81, 82, 83, 84, 85, 86, 87, 88, 89, 90]) (by decide)))) (by decide) rfl rfl hI)
            · intro a u vs hI hold hdep
              exact opAt_plain rfl (fs_still (ex_move (.tmp 13) _ rfl (hold 13 (dlM (L := [81, 82, 83, 84, 85, 86, 87, 88, 89, 90]) (by decide)))) (by decide) rfl rfl hI)
            · intro a u vs hI hold hdep
              exact opAt_plain rfl (fs_still (ex_addI (.tmp 85) (.tmp 86) _ nw y rfl (FS.dep (hdep ⟨4, .data⟩ (by simp) rfl (by decide)) (by decide) rfl) (FS.dep (hdep ⟨5, .data⟩ (by simp) rfl (by decide)) (by decide) rfl) (by omega) (by omega)) (by decide) rfl rfl hI)
            · intro a u vs hI hold hdep
              exact opAt_plain rfl (fs_still (ex_addI (.tmp 87) (.const (.int .i64 30)) _ (nw + y) 30 rfl (FS.dep (hdep ⟨6, .data⟩ (by simp) rfl (by decide)) (by decide) rfl) rfl (by omega) (by omega)) (by decide) rfl rfl hI)
            · intro a u vs hI hold hdep
              have x0 : a.eval (.tmp 82) = .agg X.cells := (FS.dep (hdep ⟨1, .data⟩ (by simp) rfl (by decide)) (by decide) rfl)
              have x1 : a.eval (.tmp 84) = .agg X.back.cells := (FS.dep (hdep ⟨3, .data⟩ (by simp) rfl (by decide)) (by decide) rfl)
              have x2 : a.eval (.tmp 88) = .int .i64 (nw + y + 30) := (FS.dep (hdep ⟨7, .data⟩ (by simp) rfl (by decide)) (by decide) rfl)
              exact opAt_plain rfl (fs_still (ex_build 44 _ #[(0, .agg X.cells), (1, .agg X.back.cells), (2, .int .i64 1), (3, .int .i64 (nw + y + 30))] _ rfl (by simp only [List.map_toArray, List.map_cons, List.map_nil, x0, x1, x2]; rfl) (build_fw4 X X.back 1 (nw + y + 30) u)) (by decide) rfl rfl hI)
            · intro a u vs hI hold hdep
              exact opAt_plain rfl (fs_bs rfl (FS.dep (hdep ⟨8, .data⟩ (by simp) rfl (by decide)) (by decide) rfl) rfl rfl hI)
          intro vs u hI hF
          have e0 : vs 0 = .slice a2 n2 c2 := (hF 0 (by decide)).is (by decide) rfl
          have e1 : vs 1 = .agg X.cells := (hF 1 (by decide)).is (by decide) rfl
          have e2 : vs 2 = .agg X.cells := (hF 2 (by decide)).is (by decide) rfl
          have e3 : vs 3 = .agg X.back.cells := (hF 3 (by decide)).is (by decide) rfl
          have e4 : vs 4 = .int .i64 nw := (hF 4 (by decide)).is (by decide) rfl
          have e5 : vs 5 = .int .i64 y := (hF 5 (by decide)).is (by decide) rfl
          have e6 : vs 6 = .int .i64 (nw + y) := (hF 6 (by decide)).is (by decide) rfl
          have e7 : vs 7 = .int .i64 (nw + y + 30) := (hF 7 (by decide)).is (by decide) rfl
          have e8 : vs 8 = .agg (Fw.cells ⟨X, X.back, 1, nw + y + 30⟩) := (hF 8 (by decide)).is (by decide) rfl
          have hM := (hF 9 (by decide)).made rfl
          clear hF
          simp only [List.drop_succ_cons, List.drop_zero, puts, List.range, List.range.loop, List.foldr, if_true, List.getD_cons_zero, List.getD_cons_succ, e0, e1, e2, e3, e4, e5, e6, e7, e8, Act.put, List.setIfInBounds_toArray, List.set_cons_zero, List.set_cons_succ]
          clear e0 e1 e2 e3 e4 e5 e6 e7 e8
          obtain ⟨gb, hM9, hr7⟩ := hM
          rw [hM9]
          have HWU := hid (HW5.out.below hI)
          have hlen : (L.map (·.2)).length + 1 ≤ 1073741824 := by rw [List.length_map]; have := HNL.out; omega
          have HLEN := hid hlen
          have HR7 := hid hr7
          clear hI hlen hM9 hr7
          go_wp2_with (first | (refine wpList_apF2 rfl (.tmp 81) (.tmp 90) rfl ⟨X, X.back, 1, nw + y + 30⟩ gb rfl rfl HWU.out.own HR7.out HWU.out.bel.size HLEN.out ?_; intro g9 n9 c9 w9 hA9 hg9 hn9) | fail)
          have HW9 := hid (HWU.out.push hA9 hg9 hn9)
          have HE9 : Hid (E1 w w9 b q' (L ++ [(q.last + 1, udF X (nw + y))]) (.slice (some ⟨g9, 0, none⟩) n9 c9) nw (i + 1)) := by
            unfold Hid
            rw [HX.out]
            exact HE.out.came (by have := HW9.out; rw [HX.out] at this; exact this) HLA.out hp t1 t2 hm1 hm2
          clear hA9 hg9 hn9
          go_roundw
          case rel => exact ⟨i + 1, n + 1, _, _, _, q', _, rfl, rfl, rfl, by omega, by omega, by unfold Hid; rw [List.length_append, HNL.out]; rfl, HE9⟩
          case measure => simp; omega
      · as_aux_lemma =>
          have hee : (err == 0) = false := by simp [e0]
          obtain ⟨rfl, rfl⟩ := h1 e0
          have HE9 : Hid (E1 w w5 b q' L' (.slice a2 n2 c2) nw (i + 1)) := HE.out.same HW5.out hp (by rw [← HX.out, ← HER.out]; exact e0)
          clear hw5 herr h0 h1 e0 hk5 HOPEN HXU
          go_wp2_with fail
          go_roundw
          case rel => exact ⟨i + 1, n, _, _, _, q', L', rfl, rfl, rfl, by omega, hn, HNL, HE9⟩
          case measure => simp; omega
  · as_aux_lemma =>
      have hcd : decide (i < pn ∧ i < tn ∧ n < 40) = false := decide_eq_false hc
      rw [hcd]
      have HGE : Hid (0 < pn → 0 < tn → 0 < n) := fun a1 a2 => by
        rcases Nat.eq_zero_or_pos n with e | e
        · have h0 := HE.out.ge
          rw [← HNL.out] at h0
          have hi0 : 0 < i := by omega
          have := h0 hi0
          omega
        · exact e
      have hlq : q.last ≤ 1000 := by rw [HE.out.la]; have := HNL.out; omega
      have HLI := HE.out.wd.list hlq
      rw [← HNL.out] at HLI
      have HLIST := hid HLI
      have HE2 := hid HE.out.next
      obtain ⟨W, HWW⟩ : ∃ W, Hid (W = L.map (·.2)) := ⟨_, rfl⟩
      rw [← HWW.out] at HE2
      clear hc hcd hi hlq HLI HWW
      go_upto_region 19 with fail
      go_cut [110] from 92 (fun c wx => c = .bool false ∧ ∃ y, y = wx ∧ Hid (Below wr.heap.size wr y))
      case first =>
        by_cases c1 : 0 < pn
        · have d1 : (0 : Int) < (pn : Int) := by omega
          by_cases c2 : 0 < tn
          · have d2 : (0 : Int) < (tn : Int) := by omega
            have d3 := HGE.out c1 c2
            have d4 : ((n : Int) == 0) = false := by simp; omega
            clear d3 c1 c2
            go_wp2_with fail
            refine HLIST.out.mono ?_
            rintro _ w5 ⟨ao, cp, rfl, hb5⟩
            have HB5 := hid hb5
            clear hb5
            go_wp2_with fail
            go_meet
            exact ⟨by first | rfl | simp, _, rfl, HB5⟩
          · have d2 : ¬ (0 : Int) < (tn : Int) := by omega
            clear c1 c2
            go_wp2_with fail
            refine HLIST.out.mono ?_
            rintro _ w5 ⟨ao, cp, rfl, hb5⟩
            have HB5 := hid hb5
            clear hb5
            go_wp2_with fail
            go_meet
            exact ⟨by first | rfl | simp, _, rfl, HB5⟩
        · have d1 : ¬ (0 : Int) < (pn : Int) := by omega
          clear c1
          go_wp2_with fail
          refine HLIST.out.mono ?_
          rintro _ w5 ⟨ao, cp, rfl, hb5⟩
          have HB5 := hid hb5
          clear hb5
          go_wp2_with fail
          go_meet
          exact ⟨by first | rfl | simp, _, rfl, HB5⟩
      case rest =>
      obtain ⟨rfl, w6, hww, HB6⟩ := hcut
      obtain rfl : w6 = wc := hww
      have HE6 := hid (HE2.out.below HB6.out)
      have ws : IntKind.i64.wrap (nw - 200) = nw - 200 := by rw [IntKind.wrap_i64]; omega
      have HM0 : Hid (0 + L.length = n) := by unfold Hid; rw [HNL.out]; omega
      clear HB6 HE2 HE HGE HLIST HNL
      go_wp2_with fail
      go_loopw [15, 16] (fun sv av wx => ∃ (k m : Nat) (A : Int) (q4 : Raw) (L4 : List (Int × Fw)), sv = .int .i64 (m : Int) ∧ av = .int .i64 A ∧ k ≤ 432 ∧ m ≤ n ∧ Hid (A = nw - 200 + k) ∧ Hid (m + L4.length = n) ∧ Hid (E2 w wx b q4 L4 (.slice a2 n2 c2) W nw k)) (fun _ av _ => match av with | .int _ z => (nw + 300 - z).toNat | _ => 0)
      case atStart => exact ⟨0, 0, nw - 200, q, L, rfl, rfl, by omega, by omega, by unfold Hid; omega, HM0, HE6⟩
      case round =>
      obtain ⟨k, m, A, q4, L4, rfl, rfl, hk, hm, HA, HML, HE4⟩ := hrel
      have wB : IntKind.i64.wrap (nw + 231) = nw + 231 := by rw [IntKind.wrap_i64]; omega
      by_cases hk2 : k < 432
      · as_aux_lemma =>
          have hA1 : A ≤ nw + 231 := by have := HA.out; omega
          have hA0 : -1152921504606848000 ≤ A := by have := HA.out; omega
          have wA : IntKind.i64.wrap (A + 1) = A + 1 := by rw [IntKind.wrap_i64]; omega
          have HDUE := hid (HE4.out.wd.due (by have := HE4.out.la; omega) (now := A) ⟨by omega, by omega⟩)
          go_wp2_with fail
          refine HDUE.out.mono ?_
          rintro _ w7 ⟨ao, n7, cp, R, q7, rfl, hp, hr, ho, hla, hw7⟩
          have hd := HE4.out.due (R := R) (by rw [← HA.out]; exact hp) hr
          rw [← HA.out] at hd
          obtain ⟨hd1, hd2, hd3⟩ := hd
          obtain ⟨_, _, _, e0, HN7, -, -⟩ := ho.shape
          simp only [Value.slice.injEq] at e0
          obtain ⟨rfl, rfl, rfl⟩ := e0
          have HE7 : Hid (E2 w w7 b q7 (L4.filter (stayB A)) (.slice a2 n2 c2) W nw (k + 1)) := by
            have h := HE4.out.step (u' := w7) (q' := q7) (by rw [← HA.out]; exact hw7) hla
            rw [← HA.out] at h
            exact h
          obtain ⟨L7, HL7⟩ : ∃ L7, Hid (L7 = L4.filter (stayB A)) := ⟨_, rfl⟩
          rw [← HL7.out] at HE7 hd1 hd2
          have HD1 : Hid (n7 + L7.length = L4.length) := by unfold Hid; rw [HN7.out]; exact hd1
          have HD2 := hid hd2
          have HD3 := hid hd3
          have HOW := hid ho
          have hn7 : n7 ≤ 40 := by have := HD1.out; have := HML.out; omega
          have HBX0 : Hid (Below w7.heap.size w7 w7) := Below.refl _ _
          have HLQ : Hid (q7.last ≤ 1000) := by have := HE7.out.la; unfold Hid; omega
          clear hp hr ho hla hw7 hd1 hd2 hd3 HDUE
          go_wp2_with fail
          go_loopw [18] (fun iv wx => ∃ j : Nat, iv = .int .i64 (j : Int) ∧ j ≤ n7 ∧ Hid (Below w7.heap.size w7 wx)) (fun iv _ => match iv with | .int _ z => n7 - z.toNat | _ => 0)
          case atStart => exact ⟨0, rfl, Nat.zero_le _, HBX0⟩
          case round =>
            obtain ⟨j, rfl, hj, HBX⟩ := hrel
            by_cases hjn : j < n7
            · as_aux_lemma =>
                have hjR : j < R.length := by rw [← HN7.out]; exact hjn
                obtain ⟨f, HF⟩ : ∃ f, Hid (f = R[j]'hjR) := ⟨_, rfl⟩
                obtain ⟨g7, rfl, hel⟩ := own_tu HOW.out (j := j) (f := f) (by rw [HF.out]; exact List.getElem?_eq_getElem hjR)
                obtain ⟨hft, ⟨pp, hpp, hfx, hfb⟩, hfW, hfa⟩ := HD2.out f (by rw [HF.out]; exact List.getElem_mem hjR)
                have HEL := hid hel
                have HFA : Hid ((!decide (f.til = A)) = false) := by unfold Hid; simp [hft]
                have HHAS : Hid (∀ u : World, Below w7.heap.size w7 u → Calls Tryz.prog 15 #[.slice a2 n2 c2, .agg f.cells] u fun e w' => e = .returned (.bool true) ∧ Below u.heap.size u w') := fun u hu => hasF_any u _ a2 n2 c2 W f (HE7.out.wd.own.below hu) hfW (by have := HE7.out.wl; omega)
                have HJN := hid hjn
                have HPP := hid hpp
                have HFX := hid hfx
                have HFB := hid hfb
                have HFN := hid hfa
                clear hft hfW hfa hel hpp hfx hfb
                go_upto_region 29 with fail
                go_cut [163] from 122 to 187 (fun c wy => c = .bool false ∧ ∃ y, y = wy ∧ Hid (Below w7.heap.size w7 y))
                case first =>
                  by_cases hj0 : j = 0
                  · as_aux_lemma =>
                      have HJ0 : Hid (decide ((0 : Int) < (j : Int)) = false) := by unfold Hid; simp [hj0]
                      clear hj0
                      refine wp_region_guarded' 35 (fun i => ([128, 129, 130, 131, 132, 133, 134, 135, 136, 137, 138, 139, 140, 141, 142, 143, 144, 145, 146, 147, 148, 149, 150, 151, 152, 153, 154, 155, 156, 157, 158, 159, 160, 161, 162] : List Tmp).getD i 0) (Vs [.slice (some ⟨g7, 0, none⟩) n7 cp, .int .i64 (j : Int), .pointer (some ⟨g7, j * 12, none⟩), .pointer (some ⟨g7, j * 12 + 11, none⟩), .int .i64 f.til, .int .i64 A, .bool false, .bool false, .int .i64 (j : Int), .bool false, .bool false, undef, undef, undef, undef, undef, undef, undef, undef, undef, undef, undef, undef, undef, undef, .bool false, .bool false, .bool false, .slice a2 n2 c2, .slice (some ⟨g7, 0, none⟩) n7 cp, .int .i64 (j : Int), .pointer (some ⟨g7, j * 12, none⟩), .agg f.cells, .bool true, .bool false]) (fun u => Below wr.heap.size wr u) (fun _ u u' => Below u.heap.size u u') (by kernel_rfl) (by kernel_rfl) ⟨rfl, rfl, rfl, Nat.le_refl _, fun _ _ => rfl⟩ (fun _ _ _ _ _ _ h _ _ => h) ?_ ?_
                      · simp only [List.take_succ_cons, List.take_zero, stepsG]
                        refine ⟨?_, ?_, ?_, ?_, ?_, ?_, ?_, ?_, ?_, ?_, ?_, ?_, ?_, ?_, ?_, ?_, ?_, ?_, ?_, ?_, ?_, ?_, ?_, ?_, ?_, ?_, ?_, ?_, ?_, ?_, ?_, ?_, ?_, ?_, ?_, trivial⟩
                        · intro a u vs hI hold hdep
                          exact opAt_plain rfl (wp_still (ex_move (.tmp 17) _ rfl (hold 17 (dlM (L := [128, 129, 130, 131, 132, 133, 134, 135, 136, 137, 138, 139, 140, 141, 142, 143, 144, 145, 146, 147, 148, 149, 150, 151, 152, 153, 154, 155, 156, 157, 158, 159, 160, 161, 162]) (by decide)))) rfl rfl hI)
                        · intro a u vs hI hold hdep
                          exact opAt_plain rfl (wp_still (ex_move (.tmp 18) _ rfl (hold 18 (dlM (L := [128, 129, 130, 131, 132, 133, 134, 135, 136, 137, 138, 139, 140, 141, 142, 143, 144, 145, 146, 147, 148, 149, 150, 151, 152, 153, 154, 155, 156, 157, 158, 159, 160, 161, 162]) (by decide)))) rfl rfl hI)
                        · intro a u vs hI hold hdep
                          exact opAt_plain rfl (wp_still (ex_index 29 (.tmp 128) (.tmp 129) _ _ _ rfl (Vs.dep (hdep ⟨0, .data⟩ (by simp) rfl (by decide)) rfl) (Vs.dep (hdep ⟨1, .data⟩ (by simp) rfl (by decide)) rfl) (idxFl HJN.out u)) rfl rfl hI)
                        · intro a u vs hI hold hdep
                          exact opAt_plain rfl (wp_still (ex_field _ ⟨g7, j * 12, none⟩ (.tmp 130) 3 _ rfl (Vs.dep (hdep ⟨2, .data⟩ (by simp) rfl (by decide)) rfl) (fl_til g7 (j * 12) u)) rfl rfl hI)
                        · intro a u vs hI hold hdep
                          exact opAt_plain rfl (wp_still (ex_load _ ⟨g7, j * 12 + 11, none⟩ (.tmp 131) _ rfl (Vs.dep (hdep ⟨3, .data⟩ (by simp) rfl (by decide)) rfl) (ldI (HEL.out u (HBX.out.trans (hI.mono HBX.out.size))).2.2.1)) rfl rfl hI)
                        · intro a u vs hI hold hdep
                          exact opAt_plain rfl (wp_still (ex_move (.tmp 16) _ rfl (hold 16 (dlM (L := [128, 129, 130, 131, 132, 133, 134, 135, 136, 137, 138, 139, 140, 141, 142, 143, 144, 145, 146, 147, 148, 149, 150, 151, 152, 153, 154, 155, 156, 157, 158, 159, 160, 161, 162]) (by decide)))) rfl rfl hI)
                        · intro a u vs hI hold hdep
                          exact opAt_plain rfl (wp_still (ex_neI (.tmp 132) (.tmp 133) _ f.til A false rfl (Vs.dep (hdep ⟨4, .data⟩ (by simp) rfl (by decide)) rfl) (Vs.dep (hdep ⟨5, .data⟩ (by simp) rfl (by decide)) rfl) HFA.out) rfl rfl hI)
                        · intro a u vs hI hold hdep
                          exact opAt_plain rfl (wp_still (ex_move (.tmp 134) _ rfl (Vs.dep (hdep ⟨6, .data⟩ (by simp) rfl (by decide)) rfl)) rfl rfl hI)
                        · intro a u vs hI hold hdep
                          exact opAt_go (j := 7) (t := 135) (b := false) rfl rfl (Vs.dep (hdep ⟨7, .guard⟩ (by simp) rfl (by decide)) rfl) (wp_still (ex_move (.tmp 18) _ rfl (hold 18 (dlM (L := [128, 129, 130, 131, 132, 133, 134, 135, 136, 137, 138, 139, 140, 141, 142, 143, 144, 145, 146, 147, 148, 149, 150, 151, 152, 153, 154, 155, 156, 157, 158, 159, 160, 161, 162]) (by decide)))) rfl rfl hI)
                        · intro a u vs hI hold hdep
                          exact opAt_go (j := 7) (t := 135) (b := false) rfl rfl (Vs.dep (hdep ⟨7, .guard⟩ (by simp) rfl (by decide)) rfl) (wp_still (ex_gtI (.tmp 136) (.const (.int .i64 0)) _ (j : Int) 0 false rfl (Vs.dep (hdep ⟨8, .data⟩ (by simp) rfl (by decide)) rfl) rfl HJ0.out) rfl rfl hI)
                        · intro a u vs hI hold hdep
                          exact opAt_go (j := 7) (t := 135) (b := false) rfl rfl (Vs.dep (hdep ⟨7, .guard⟩ (by simp) rfl (by decide)) rfl) (wp_still (ex_move (.tmp 137) _ rfl (Vs.dep (hdep ⟨9, .data⟩ (by simp) rfl (by decide)) rfl)) rfl rfl hI)
                        · intro a u vs hI hold hdep
                          exact opAt_skip (j := 10) (t := 138) (b := true) rfl rfl (Vs.dep (hdep ⟨10, .guard⟩ (by simp) rfl (by decide)) rfl) ⟨_, rfl, rfl, hI, Below.refl _ _⟩
                        · intro a u vs hI hold hdep
                          exact opAt_skip (j := 10) (t := 138) (b := true) rfl rfl (Vs.dep (hdep ⟨10, .guard⟩ (by simp) rfl (by decide)) rfl) ⟨_, rfl, rfl, hI, Below.refl _ _⟩
                        · intro a u vs hI hold hdep
                          exact opAt_skip (j := 10) (t := 138) (b := true) rfl rfl (Vs.dep (hdep ⟨10, .guard⟩ (by simp) rfl (by decide)) rfl) ⟨_, rfl, rfl, hI, Below.refl _ _⟩
                        · intro a u vs hI hold hdep
                          exact opAt_skip (j := 10) (t := 138) (b := true) rfl rfl (Vs.dep (hdep ⟨10, .guard⟩ (by simp) rfl (by decide)) rfl) ⟨_, rfl, rfl, hI, Below.refl _ _⟩
                        · intro a u vs hI hold hdep
                          exact opAt_skip (j := 10) (t := 138) (b := true) rfl rfl (Vs.dep (hdep ⟨10, .guard⟩ (by simp) rfl (by decide)) rfl) ⟨_, rfl, rfl, hI, Below.refl _ _⟩
                        · intro a u vs hI hold hdep
                          exact opAt_skip (j := 10) (t := 138) (b := true) rfl rfl (Vs.dep (hdep ⟨10, .guard⟩ (by simp) rfl (by decide)) rfl) ⟨_, rfl, rfl, hI, Below.refl _ _⟩
                        · intro a u vs hI hold hdep
                          exact opAt_skip (j := 10) (t := 138) (b := true) rfl rfl (Vs.dep (hdep ⟨10, .guard⟩ (by simp) rfl (by decide)) rfl) ⟨_, rfl, rfl, hI, Below.refl _ _⟩
                        · intro a u vs hI hold hdep
                          exact opAt_skip (j := 10) (t := 138) (b := true) rfl rfl (Vs.dep (hdep ⟨10, .guard⟩ (by simp) rfl (by decide)) rfl) ⟨_, rfl, rfl, hI, Below.refl _ _⟩
                        · intro a u vs hI hold hdep
                          exact opAt_skip (j := 10) (t := 138) (b := true) rfl rfl (Vs.dep (hdep ⟨10, .guard⟩ (by simp) rfl (by decide)) rfl) ⟨_, rfl, rfl, hI, Below.refl _ _⟩
                        · intro a u vs hI hold hdep
                          exact opAt_skip (j := 10) (t := 138) (b := true) rfl rfl (Vs.dep (hdep ⟨10, .guard⟩ (by simp) rfl (by decide)) rfl) ⟨_, rfl, rfl, hI, Below.refl _ _⟩
                        · intro a u vs hI hold hdep
                          exact opAt_skip (j := 10) (t := 138) (b := true) rfl rfl (Vs.dep (hdep ⟨10, .guard⟩ (by simp) rfl (by decide)) rfl) ⟨_, rfl, rfl, hI, Below.refl _ _⟩
                        · intro a u vs hI hold hdep
                          exact opAt_skip (j := 10) (t := 138) (b := true) rfl rfl (Vs.dep (hdep ⟨10, .guard⟩ (by simp) rfl (by decide)) rfl) ⟨_, rfl, rfl, hI, Below.refl _ _⟩
                        · intro a u vs hI hold hdep
                          exact opAt_skip (j := 10) (t := 138) (b := true) rfl rfl (Vs.dep (hdep ⟨10, .guard⟩ (by simp) rfl (by decide)) rfl) ⟨_, rfl, rfl, hI, Below.refl _ _⟩
                        · intro a u vs hI hold hdep
                          exact opAt_skip (j := 10) (t := 138) (b := true) rfl rfl (Vs.dep (hdep ⟨10, .guard⟩ (by simp) rfl (by decide)) rfl) ⟨_, rfl, rfl, hI, Below.refl _ _⟩
                        · intro a u vs hI hold hdep
                          exact opAt_go (j := 7) (t := 135) (b := false) rfl rfl (Vs.dep (hdep ⟨7, .guard⟩ (by simp) rfl (by decide)) rfl) (wp_still (ex_pick (.tmp 138) (.tmp 152) (.const (.bool false)) false (.bool false) rfl (Vs.dep (hdep ⟨10, .data⟩ (by simp) rfl (by decide)) rfl) rfl) rfl rfl hI)
                        · intro a u vs hI hold hdep
                          exact opAt_plain rfl (wp_still (ex_pick (.tmp 135) (.const (.bool true)) (.tmp 153) false (.bool false) rfl (Vs.dep (hdep ⟨7, .data⟩ (by simp) rfl (by decide)) rfl) (Vs.dep (hdep ⟨25, .data⟩ (by simp) rfl (by decide)) rfl)) rfl rfl hI)
                        · intro a u vs hI hold hdep
                          exact opAt_plain rfl (wp_still (ex_move (.tmp 154) _ rfl (Vs.dep (hdep ⟨26, .data⟩ (by simp) rfl (by decide)) rfl)) rfl rfl hI)
                        · intro a u vs hI hold hdep
                          exact opAt_go (j := 27) (t := 155) (b := false) rfl rfl (Vs.dep (hdep ⟨27, .guard⟩ (by simp) rfl (by decide)) rfl) (wp_still (ex_move (.tmp 11) _ rfl (hold 11 (dlM (L := [128, 129, 130, 131, 132, 133, 134, 135, 136, 137, 138, 139, 140, 141, 142, 143, 144, 145, 146, 147, 148, 149, 150, 151, 152, 153, 154, 155, 156, 157, 158, 159, 160, 161, 162]) (by decide)))) rfl rfl hI)
                        · intro a u vs hI hold hdep
                          exact opAt_go (j := 27) (t := 155) (b := false) rfl rfl (Vs.dep (hdep ⟨27, .guard⟩ (by simp) rfl (by decide)) rfl) (wp_still (ex_move (.tmp 17) _ rfl (hold 17 (dlM (L := [128, 129, 130, 131, 132, 133, 134, 135, 136, 137, 138, 139, 140, 141, 142, 143, 144, 145, 146, 147, 148, 149, 150, 151, 152, 153, 154, 155, 156, 157, 158, 159, 160, 161, 162]) (by decide)))) rfl rfl hI)
                        · intro a u vs hI hold hdep
                          exact opAt_go (j := 27) (t := 155) (b := false) rfl rfl (Vs.dep (hdep ⟨27, .guard⟩ (by simp) rfl (by decide)) rfl) (wp_still (ex_move (.tmp 18) _ rfl (hold 18 (dlM (L := [128, 129, 130, 131, 132, 133, 134, 135, 136, 137, 138, 139, 140, 141, 142, 143, 144, 145, 146, 147, 148, 149, 150, 151, 152, 153, 154, 155, 156, 157, 158, 159, 160, 161, 162]) (by decide)))) rfl rfl hI)
                        · intro a u vs hI hold hdep
                          exact opAt_go (j := 27) (t := 155) (b := false) rfl rfl (Vs.dep (hdep ⟨27, .guard⟩ (by simp) rfl (by decide)) rfl) (wp_still (ex_index 29 (.tmp 157) (.tmp 158) _ _ _ rfl (Vs.dep (hdep ⟨29, .data⟩ (by simp) rfl (by decide)) rfl) (Vs.dep (hdep ⟨30, .data⟩ (by simp) rfl (by decide)) rfl) (idxFl HJN.out u)) rfl rfl hI)
                        · intro a u vs hI hold hdep
                          exact opAt_go (j := 27) (t := 155) (b := false) rfl rfl (Vs.dep (hdep ⟨27, .guard⟩ (by simp) rfl (by decide)) rfl) (wp_still (ex_load _ ⟨g7, j * 12, none⟩ (.tmp 159) _ rfl (Vs.dep (hdep ⟨31, .data⟩ (by simp) rfl (by decide)) rfl) ((HEL.out u (HBX.out.trans (hI.mono HBX.out.size))).2.2.2.2)) rfl rfl hI)
                        · intro a u vs hI hold hdep
                          have e0 : a.eval (.tmp 156) = .slice a2 n2 c2 := (Vs.dep (hdep ⟨28, .data⟩ (by simp) rfl (by decide)) rfl)
                          have e1 : a.eval (.tmp 160) = .agg f.cells := (Vs.dep (hdep ⟨32, .data⟩ (by simp) rfl (by decide)) rfl)
                          refine opAt_go (j := 27) (t := 155) (b := false) rfl rfl (Vs.dep (hdep ⟨27, .guard⟩ (by simp) rfl (by decide)) rfl) ?_
                          refine wp_call 15 _ _ rfl (enters_of Tryz.func15 (by kernel_rfl) rfl) #[.slice a2 n2 c2, .agg f.cells] (by simp only [List.map_toArray, List.map_cons, List.map_nil, e0, e1]) ?_
                          refine (HHAS.out u (HBX.out.trans (hI.mono HBX.out.size))).mono ?_
                          rintro _ u' ⟨rfl, hb'⟩
                          exact ⟨_, rfl, _, rfl, rfl, hI.trans (hb'.mono hI.size), hb'⟩
                        · intro a u vs hI hold hdep
                          exact opAt_go (j := 27) (t := 155) (b := false) rfl rfl (Vs.dep (hdep ⟨27, .guard⟩ (by simp) rfl (by decide)) rfl) (wp_still (ex_notB (.tmp 161) _ true rfl (Vs.dep (hdep ⟨33, .data⟩ (by simp) rfl (by decide)) rfl)) rfl rfl hI)
                      intro vs u hI hF
                      have e0 : vs 0 = .slice (some ⟨g7, 0, none⟩) n7 cp := (Option.some.inj (hF 0 (by decide))).symm
                      have e1 : vs 1 = .int .i64 (j : Int) := (Option.some.inj (hF 1 (by decide))).symm
                      have e2 : vs 2 = .pointer (some ⟨g7, j * 12, none⟩) := (Option.some.inj (hF 2 (by decide))).symm
                      have e3 : vs 3 = .pointer (some ⟨g7, j * 12 + 11, none⟩) := (Option.some.inj (hF 3 (by decide))).symm
                      have e4 : vs 4 = .int .i64 f.til := (Option.some.inj (hF 4 (by decide))).symm
                      have e5 : vs 5 = .int .i64 A := (Option.some.inj (hF 5 (by decide))).symm
                      have e6 : vs 6 = .bool false := (Option.some.inj (hF 6 (by decide))).symm
                      have e7 : vs 7 = .bool false := (Option.some.inj (hF 7 (by decide))).symm
                      have e8 : vs 8 = .int .i64 (j : Int) := (Option.some.inj (hF 8 (by decide))).symm
                      have e9 : vs 9 = .bool false := (Option.some.inj (hF 9 (by decide))).symm
                      have e10 : vs 10 = .bool false := (Option.some.inj (hF 10 (by decide))).symm
                      have e11 : vs 11 = undef := (Option.some.inj (hF 11 (by decide))).symm
                      have e12 : vs 12 = undef := (Option.some.inj (hF 12 (by decide))).symm
                      have e13 : vs 13 = undef := (Option.some.inj (hF 13 (by decide))).symm
                      have e14 : vs 14 = undef := (Option.some.inj (hF 14 (by decide))).symm
                      have e15 : vs 15 = undef := (Option.some.inj (hF 15 (by decide))).symm
                      have e16 : vs 16 = undef := (Option.some.inj (hF 16 (by decide))).symm
                      have e17 : vs 17 = undef := (Option.some.inj (hF 17 (by decide))).symm
                      have e18 : vs 18 = undef := (Option.some.inj (hF 18 (by decide))).symm
                      have e19 : vs 19 = undef := (Option.some.inj (hF 19 (by decide))).symm
                      have e20 : vs 20 = undef := (Option.some.inj (hF 20 (by decide))).symm
                      have e21 : vs 21 = undef := (Option.some.inj (hF 21 (by decide))).symm
                      have e22 : vs 22 = undef := (Option.some.inj (hF 22 (by decide))).symm
                      have e23 : vs 23 = undef := (Option.some.inj (hF 23 (by decide))).symm
                      have e24 : vs 24 = undef := (Option.some.inj (hF 24 (by decide))).symm
                      have e25 : vs 25 = .bool false := (Option.some.inj (hF 25 (by decide))).symm
                      have e26 : vs 26 = .bool false := (Option.some.inj (hF 26 (by decide))).symm
                      have e27 : vs 27 = .bool false := (Option.some.inj (hF 27 (by decide))).symm
                      have e28 : vs 28 = .slice a2 n2 c2 := (Option.some.inj (hF 28 (by decide))).symm
                      have e29 : vs 29 = .slice (some ⟨g7, 0, none⟩) n7 cp := (Option.some.inj (hF 29 (by decide))).symm
                      have e30 : vs 30 = .int .i64 (j : Int) := (Option.some.inj (hF 30 (by decide))).symm
                      have e31 : vs 31 = .pointer (some ⟨g7, j * 12, none⟩) := (Option.some.inj (hF 31 (by decide))).symm
                      have e32 : vs 32 = .agg f.cells := (Option.some.inj (hF 32 (by decide))).symm
                      have e33 : vs 33 = .bool true := (Option.some.inj (hF 33 (by decide))).symm
                      have e34 : vs 34 = .bool false := (Option.some.inj (hF 34 (by decide))).symm
                      clear hF
                      simp only [List.drop_succ_cons, List.drop_zero, puts, List.range, List.range.loop, List.foldr, if_true, List.getD_cons_zero, List.getD_cons_succ, e0, e1, e2, e3, e4, e5, e6, e7, e8, e9, e10, e11, e12, e13, e14, e15, e16, e17, e18, e19, e20, e21, e22, e23, e24, e25, e26, e27, e28, e29, e30, e31, e32, e33, e34, Act.put, List.setIfInBounds_toArray, List.set_cons_zero, List.set_cons_succ]
                      clear e0 e1 e2 e3 e4 e5 e6 e7 e8 e9 e10 e11 e12 e13 e14 e15 e16 e17 e18 e19 e20 e21 e22 e23 e24 e25 e26 e27 e28 e29 e30 e31 e32 e33 e34
                      have HBU := hid (HBX.out.trans (hI.mono HBX.out.size))
                      clear hI
                      go_wp2_with fail
                      go_meet
                      exact ⟨by first | rfl | simp, _, rfl, HBU⟩
                  · as_aux_lemma =>
                      have HJ0 : Hid (decide ((0 : Int) < (j : Int)) = true) := by unfold Hid; simp; omega
                      have HJ1 : Hid (0 < j) := by unfold Hid; omega
                      have hjm : j - 1 < R.length := by omega
                      have HJM : Hid (j - 1 < n7) := by unfold Hid; omega
                      obtain ⟨f1, HF1⟩ : ∃ f, Hid (f = R[j - 1]'hjm) := ⟨_, rfl⟩
                      obtain ⟨g8, eg, hem⟩ := own_tu HOW.out (j := j - 1) (f := f1) (by rw [HF1.out]; exact List.getElem?_eq_getElem hjm)
                      simp only [Option.some.injEq, Addr.mk.injEq, and_true] at eg
                      obtain rfl := eg
                      have HEM := hid hem
                      have HSP : Hid (decide ((f.th.sp : Int) ≤ (f1.th.sp : Int)) = false) := by
                        have := HD3.out j HJ1.out hjR hjm
                        rw [← HF.out, ← HF1.out] at this
                        unfold Hid
                        simp
                        omega
                      clear hj0 hem
                      refine wp_region_guarded' 35 (fun i => ([128, 129, 130, 131, 132, 133, 134, 135, 136, 137, 138, 139, 140, 141, 142, 143, 144, 145, 146, 147, 148, 149, 150, 151, 152, 153, 154, 155, 156, 157, 158, 159, 160, 161, 162] : List Tmp).getD i 0) (Vs [.slice (some ⟨g7, 0, none⟩) n7 cp, .int .i64 (j : Int), .pointer (some ⟨g7, j * 12, none⟩), .pointer (some ⟨g7, j * 12 + 11, none⟩), .int .i64 f.til, .int .i64 A, .bool false, .bool false, .int .i64 (j : Int), .bool true, .bool true, .slice (some ⟨g7, 0, none⟩) n7 cp, .int .i64 (j : Int), .pointer (some ⟨g7, j * 12, none⟩), .pointer (some ⟨g7, j * 12, none⟩), .pointer (some ⟨g7, j * 12 + 3, none⟩), .int .u16 (f.th.sp : Int), .slice (some ⟨g7, 0, none⟩) n7 cp, .int .i64 (j : Int), .int .i64 ((j - 1 : Nat) : Int), .pointer (some ⟨g7, (j - 1) * 12, none⟩), .pointer (some ⟨g7, (j - 1) * 12, none⟩), .pointer (some ⟨g7, (j - 1) * 12 + 3, none⟩), .int .u16 (f1.th.sp : Int), .bool false, .bool false, .bool false, .bool false, .slice a2 n2 c2, .slice (some ⟨g7, 0, none⟩) n7 cp, .int .i64 (j : Int), .pointer (some ⟨g7, j * 12, none⟩), .agg f.cells, .bool true, .bool false]) (fun u => Below wr.heap.size wr u) (fun _ u u' => Below u.heap.size u u') (by kernel_rfl) (by kernel_rfl) ⟨rfl, rfl, rfl, Nat.le_refl _, fun _ _ => rfl⟩ (fun _ _ _ _ _ _ h _ _ => h) ?_ ?_
                      · simp only [List.take_succ_cons, List.take_zero, stepsG]
                        refine ⟨?_, ?_, ?_, ?_, ?_, ?_, ?_, ?_, ?_, ?_, ?_, ?_, ?_, ?_, ?_, ?_, ?_, ?_, ?_, ?_, ?_, ?_, ?_, ?_, ?_, ?_, ?_, ?_, ?_, ?_, ?_, ?_, ?_, ?_, ?_, trivial⟩
                        · intro a u vs hI hold hdep
                          exact opAt_plain rfl (wp_still (ex_move (.tmp 17) _ rfl (hold 17 (dlM (L := [128, 129, 130, 131, 132, 133, 134, 135, 136, 137, 138, 139, 140, 141, 142, 143, 144, 145, 146, 147, 148, 149, 150, 151, 152, 153, 154, 155, 156, 157, 158, 159, 160, 161, 162]) (by decide)))) rfl rfl hI)
                        · intro a u vs hI hold hdep
                          exact opAt_plain rfl (wp_still (ex_move (.tmp 18) _ rfl (hold 18 (dlM (L := [128, 129, 130, 131, 132, 133, 134, 135, 136, 137, 138, 139, 140, 141, 142, 143, 144, 145, 146, 147, 148, 149, 150, 151, 152, 153, 154, 155, 156, 157, 158, 159, 160, 161, 162]) (by decide)))) rfl rfl hI)
                        · intro a u vs hI hold hdep
                          exact opAt_plain rfl (wp_still (ex_index 29 (.tmp 128) (.tmp 129) _ _ _ rfl (Vs.dep (hdep ⟨0, .data⟩ (by simp) rfl (by decide)) rfl) (Vs.dep (hdep ⟨1, .data⟩ (by simp) rfl (by decide)) rfl) (idxFl HJN.out u)) rfl rfl hI)
                        · intro a u vs hI hold hdep
                          exact opAt_plain rfl (wp_still (ex_field _ ⟨g7, j * 12, none⟩ (.tmp 130) 3 _ rfl (Vs.dep (hdep ⟨2, .data⟩ (by simp) rfl (by decide)) rfl) (fl_til g7 (j * 12) u)) rfl rfl hI)
                        · intro a u vs hI hold hdep
                          exact opAt_plain rfl (wp_still (ex_load _ ⟨g7, j * 12 + 11, none⟩ (.tmp 131) _ rfl (Vs.dep (hdep ⟨3, .data⟩ (by simp) rfl (by decide)) rfl) (ldI (HEL.out u (HBX.out.trans (hI.mono HBX.out.size))).2.2.1)) rfl rfl hI)
                        · intro a u vs hI hold hdep
                          exact opAt_plain rfl (wp_still (ex_move (.tmp 16) _ rfl (hold 16 (dlM (L := [128, 129, 130, 131, 132, 133, 134, 135, 136, 137, 138, 139, 140, 141, 142, 143, 144, 145, 146, 147, 148, 149, 150, 151, 152, 153, 154, 155, 156, 157, 158, 159, 160, 161, 162]) (by decide)))) rfl rfl hI)
                        · intro a u vs hI hold hdep
                          exact opAt_plain rfl (wp_still (ex_neI (.tmp 132) (.tmp 133) _ f.til A false rfl (Vs.dep (hdep ⟨4, .data⟩ (by simp) rfl (by decide)) rfl) (Vs.dep (hdep ⟨5, .data⟩ (by simp) rfl (by decide)) rfl) HFA.out) rfl rfl hI)
                        · intro a u vs hI hold hdep
                          exact opAt_plain rfl (wp_still (ex_move (.tmp 134) _ rfl (Vs.dep (hdep ⟨6, .data⟩ (by simp) rfl (by decide)) rfl)) rfl rfl hI)
                        · intro a u vs hI hold hdep
                          exact opAt_go (j := 7) (t := 135) (b := false) rfl rfl (Vs.dep (hdep ⟨7, .guard⟩ (by simp) rfl (by decide)) rfl) (wp_still (ex_move (.tmp 18) _ rfl (hold 18 (dlM (L := [128, 129, 130, 131, 132, 133, 134, 135, 136, 137, 138, 139, 140, 141, 142, 143, 144, 145, 146, 147, 148, 149, 150, 151, 152, 153, 154, 155, 156, 157, 158, 159, 160, 161, 162]) (by decide)))) rfl rfl hI)
                        · intro a u vs hI hold hdep
                          exact opAt_go (j := 7) (t := 135) (b := false) rfl rfl (Vs.dep (hdep ⟨7, .guard⟩ (by simp) rfl (by decide)) rfl) (wp_still (ex_gtI (.tmp 136) (.const (.int .i64 0)) _ (j : Int) 0 true rfl (Vs.dep (hdep ⟨8, .data⟩ (by simp) rfl (by decide)) rfl) rfl HJ0.out) rfl rfl hI)
                        · intro a u vs hI hold hdep
                          exact opAt_go (j := 7) (t := 135) (b := false) rfl rfl (Vs.dep (hdep ⟨7, .guard⟩ (by simp) rfl (by decide)) rfl) (wp_still (ex_move (.tmp 137) _ rfl (Vs.dep (hdep ⟨9, .data⟩ (by simp) rfl (by decide)) rfl)) rfl rfl hI)
                        · intro a u vs hI hold hdep
                          exact opAt_go (j := 10) (t := 138) (b := true) rfl rfl (Vs.dep (hdep ⟨10, .guard⟩ (by simp) rfl (by decide)) rfl) (wp_still (ex_move (.tmp 17) _ rfl (hold 17 (dlM (L := [128, 129, 130, 131, 132, 133, 134, 135, 136, 137, 138, 139, 140, 141, 142, 143, 144, 145, 146, 147, 148, 149, 150, 151, 152, 153, 154, 155, 156, 157, 158, 159, 160, 161, 162]) (by decide)))) rfl rfl hI)
                        · intro a u vs hI hold hdep
                          exact opAt_go (j := 10) (t := 138) (b := true) rfl rfl (Vs.dep (hdep ⟨10, .guard⟩ (by simp) rfl (by decide)) rfl) (wp_still (ex_move (.tmp 18) _ rfl (hold 18 (dlM (L := [128, 129, 130, 131, 132, 133, 134, 135, 136, 137, 138, 139, 140, 141, 142, 143, 144, 145, 146, 147, 148, 149, 150, 151, 152, 153, 154, 155, 156, 157, 158, 159, 160, 161, 162]) (by decide)))) rfl rfl hI)
                        · intro a u vs hI hold hdep
                          exact opAt_go (j := 10) (t := 138) (b := true) rfl rfl (Vs.dep (hdep ⟨10, .guard⟩ (by simp) rfl (by decide)) rfl) (wp_still (ex_index 29 (.tmp 139) (.tmp 140) _ _ _ rfl (Vs.dep (hdep ⟨11, .data⟩ (by simp) rfl (by decide)) rfl) (Vs.dep (hdep ⟨12, .data⟩ (by simp) rfl (by decide)) rfl) (idxFl HJN.out u)) rfl rfl hI)
                        · intro a u vs hI hold hdep
                          exact opAt_go (j := 10) (t := 138) (b := true) rfl rfl (Vs.dep (hdep ⟨10, .guard⟩ (by simp) rfl (by decide)) rfl) (wp_still (ex_field _ ⟨g7, j * 12, none⟩ (.tmp 141) 0 _ rfl (Vs.dep (hdep ⟨13, .data⟩ (by simp) rfl (by decide)) rfl) (fl_th g7 (j * 12) u)) rfl rfl hI)
                        · intro a u vs hI hold hdep
                          exact opAt_go (j := 10) (t := 138) (b := true) rfl rfl (Vs.dep (hdep ⟨10, .guard⟩ (by simp) rfl (by decide)) rfl) (wp_still (ex_field _ ⟨g7, j * 12, none⟩ (.tmp 142) 3 _ rfl (Vs.dep (hdep ⟨14, .data⟩ (by simp) rfl (by decide)) rfl) (tu_sp g7 (j * 12) u)) rfl rfl hI)
                        · intro a u vs hI hold hdep
                          exact opAt_go (j := 10) (t := 138) (b := true) rfl rfl (Vs.dep (hdep ⟨10, .guard⟩ (by simp) rfl (by decide)) rfl) (wp_still (ex_load _ ⟨g7, j * 12 + 3, none⟩ (.tmp 143) _ rfl (Vs.dep (hdep ⟨15, .data⟩ (by simp) rfl (by decide)) rfl) (ldP (HEL.out u (HBX.out.trans (hI.mono HBX.out.size))).2.2.2.1)) rfl rfl hI)
                        · intro a u vs hI hold hdep
                          exact opAt_go (j := 10) (t := 138) (b := true) rfl rfl (Vs.dep (hdep ⟨10, .guard⟩ (by simp) rfl (by decide)) rfl) (wp_still (ex_move (.tmp 17) _ rfl (hold 17 (dlM (L := [128, 129, 130, 131, 132, 133, 134, 135, 136, 137, 138, 139, 140, 141, 142, 143, 144, 145, 146, 147, 148, 149, 150, 151, 152, 153, 154, 155, 156, 157, 158, 159, 160, 161, 162]) (by decide)))) rfl rfl hI)
                        · intro a u vs hI hold hdep
                          exact opAt_go (j := 10) (t := 138) (b := true) rfl rfl (Vs.dep (hdep ⟨10, .guard⟩ (by simp) rfl (by decide)) rfl) (wp_still (ex_move (.tmp 18) _ rfl (hold 18 (dlM (L := [128, 129, 130, 131, 132, 133, 134, 135, 136, 137, 138, 139, 140, 141, 142, 143, 144, 145, 146, 147, 148, 149, 150, 151, 152, 153, 154, 155, 156, 157, 158, 159, 160, 161, 162]) (by decide)))) rfl rfl hI)
                        · intro a u vs hI hold hdep
                          exact opAt_go (j := 10) (t := 138) (b := true) rfl rfl (Vs.dep (hdep ⟨10, .guard⟩ (by simp) rfl (by decide)) rfl) (wp_still (ex_subN (.tmp 146) (.const (.int .i64 1)) _ j rfl (Vs.dep (hdep ⟨18, .data⟩ (by simp) rfl (by decide)) rfl) rfl HJ1.out (by omega)) rfl rfl hI)
                        · intro a u vs hI hold hdep
                          exact opAt_go (j := 10) (t := 138) (b := true) rfl rfl (Vs.dep (hdep ⟨10, .guard⟩ (by simp) rfl (by decide)) rfl) (wp_still (ex_index 29 (.tmp 145) (.tmp 147) _ _ _ rfl (Vs.dep (hdep ⟨17, .data⟩ (by simp) rfl (by decide)) rfl) (Vs.dep (hdep ⟨19, .data⟩ (by simp) rfl (by decide)) rfl) (idxFl HJM.out u)) rfl rfl hI)
                        · intro a u vs hI hold hdep
                          exact opAt_go (j := 10) (t := 138) (b := true) rfl rfl (Vs.dep (hdep ⟨10, .guard⟩ (by simp) rfl (by decide)) rfl) (wp_still (ex_field _ ⟨g7, (j - 1) * 12, none⟩ (.tmp 148) 0 _ rfl (Vs.dep (hdep ⟨20, .data⟩ (by simp) rfl (by decide)) rfl) (fl_th g7 ((j - 1) * 12) u)) rfl rfl hI)
                        · intro a u vs hI hold hdep
                          exact opAt_go (j := 10) (t := 138) (b := true) rfl rfl (Vs.dep (hdep ⟨10, .guard⟩ (by simp) rfl (by decide)) rfl) (wp_still (ex_field _ ⟨g7, (j - 1) * 12, none⟩ (.tmp 149) 3 _ rfl (Vs.dep (hdep ⟨21, .data⟩ (by simp) rfl (by decide)) rfl) (tu_sp g7 ((j - 1) * 12) u)) rfl rfl hI)
                        · intro a u vs hI hold hdep
                          exact opAt_go (j := 10) (t := 138) (b := true) rfl rfl (Vs.dep (hdep ⟨10, .guard⟩ (by simp) rfl (by decide)) rfl) (wp_still (ex_load _ ⟨g7, (j - 1) * 12 + 3, none⟩ (.tmp 150) _ rfl (Vs.dep (hdep ⟨22, .data⟩ (by simp) rfl (by decide)) rfl) (ldP (HEM.out u (HBX.out.trans (hI.mono HBX.out.size))).2.2.2.1)) rfl rfl hI)
                        · intro a u vs hI hold hdep
                          exact opAt_go (j := 10) (t := 138) (b := true) rfl rfl (Vs.dep (hdep ⟨10, .guard⟩ (by simp) rfl (by decide)) rfl) (wp_still (ex_leP (.tmp 144) (.tmp 151) _ (f.th.sp : Int) (f1.th.sp : Int) false rfl (Vs.dep (hdep ⟨16, .data⟩ (by simp) rfl (by decide)) rfl) (Vs.dep (hdep ⟨23, .data⟩ (by simp) rfl (by decide)) rfl) HSP.out) rfl rfl hI)
                        · intro a u vs hI hold hdep
                          exact opAt_go (j := 7) (t := 135) (b := false) rfl rfl (Vs.dep (hdep ⟨7, .guard⟩ (by simp) rfl (by decide)) rfl) (wp_still (ex_pick (.tmp 138) (.tmp 152) (.const (.bool false)) true (.bool false) rfl (Vs.dep (hdep ⟨10, .data⟩ (by simp) rfl (by decide)) rfl) (Vs.dep (hdep ⟨24, .data⟩ (by simp) rfl (by decide)) rfl)) rfl rfl hI)
                        · intro a u vs hI hold hdep
                          exact opAt_plain rfl (wp_still (ex_pick (.tmp 135) (.const (.bool true)) (.tmp 153) false (.bool false) rfl (Vs.dep (hdep ⟨7, .data⟩ (by simp) rfl (by decide)) rfl) (Vs.dep (hdep ⟨25, .data⟩ (by simp) rfl (by decide)) rfl)) rfl rfl hI)
                        · intro a u vs hI hold hdep
                          exact opAt_plain rfl (wp_still (ex_move (.tmp 154) _ rfl (Vs.dep (hdep ⟨26, .data⟩ (by simp) rfl (by decide)) rfl)) rfl rfl hI)
                        · intro a u vs hI hold hdep
                          exact opAt_go (j := 27) (t := 155) (b := false) rfl rfl (Vs.dep (hdep ⟨27, .guard⟩ (by simp) rfl (by decide)) rfl) (wp_still (ex_move (.tmp 11) _ rfl (hold 11 (dlM (L := [128, 129, 130, 131, 132, 133, 134, 135, 136, 137, 138, 139, 140, 141, 142, 143, 144, 145, 146, 147, 148, 149, 150, 151, 152, 153, 154, 155, 156, 157, 158, 159, 160, 161, 162]) (by decide)))) rfl rfl hI)
                        · intro a u vs hI hold hdep
                          exact opAt_go (j := 27) (t := 155) (b := false) rfl rfl (Vs.dep (hdep ⟨27, .guard⟩ (by simp) rfl (by decide)) rfl) (wp_still (ex_move (.tmp 17) _ rfl (hold 17 (dlM (L := [128, 129, 130, 131, 132, 133, 134, 135, 136, 137, 138, 139, 140, 141, 142, 143, 144, 145, 146, 147, 148, 149, 150, 151, 152, 153, 154, 155, 156, 157, 158, 159, 160, 161, 162]) (by decide)))) rfl rfl hI)
                        · intro a u vs hI hold hdep
                          exact opAt_go (j := 27) (t := 155) (b := false) rfl rfl (Vs.dep (hdep ⟨27, .guard⟩ (by simp) rfl (by decide)) rfl) (wp_still (ex_move (.tmp 18) _ rfl (hold 18 (dlM (L := [128, 129, 130, 131, 132, 133, 134, 135, 136, 137, 138, 139, 140, 141, 142, 143, 144, 145, 146, 147, 148, 149, 150, 151, 152, 153, 154, 155, 156, 157, 158, 159, 160, 161, 162]) (by decide)))) rfl rfl hI)
                        · intro a u vs hI hold hdep
                          exact opAt_go (j := 27) (t := 155) (b := false) rfl rfl (Vs.dep (hdep ⟨27, .guard⟩ (by simp) rfl (by decide)) rfl) (wp_still (ex_index 29 (.tmp 157) (.tmp 158) _ _ _ rfl (Vs.dep (hdep ⟨29, .data⟩ (by simp) rfl (by decide)) rfl) (Vs.dep (hdep ⟨30, .data⟩ (by simp) rfl (by decide)) rfl) (idxFl HJN.out u)) rfl rfl hI)
                        · intro a u vs hI hold hdep
                          exact opAt_go (j := 27) (t := 155) (b := false) rfl rfl (Vs.dep (hdep ⟨27, .guard⟩ (by simp) rfl (by decide)) rfl) (wp_still (ex_load _ ⟨g7, j * 12, none⟩ (.tmp 159) _ rfl (Vs.dep (hdep ⟨31, .data⟩ (by simp) rfl (by decide)) rfl) ((HEL.out u (HBX.out.trans (hI.mono HBX.out.size))).2.2.2.2)) rfl rfl hI)
                        · intro a u vs hI hold hdep
                          have e0 : a.eval (.tmp 156) = .slice a2 n2 c2 := (Vs.dep (hdep ⟨28, .data⟩ (by simp) rfl (by decide)) rfl)
                          have e1 : a.eval (.tmp 160) = .agg f.cells := (Vs.dep (hdep ⟨32, .data⟩ (by simp) rfl (by decide)) rfl)
                          refine opAt_go (j := 27) (t := 155) (b := false) rfl rfl (Vs.dep (hdep ⟨27, .guard⟩ (by simp) rfl (by decide)) rfl) ?_
                          refine wp_call 15 _ _ rfl (enters_of Tryz.func15 (by kernel_rfl) rfl) #[.slice a2 n2 c2, .agg f.cells] (by simp only [List.map_toArray, List.map_cons, List.map_nil, e0, e1]) ?_
                          refine (HHAS.out u (HBX.out.trans (hI.mono HBX.out.size))).mono ?_
                          rintro _ u' ⟨rfl, hb'⟩
                          exact ⟨_, rfl, _, rfl, rfl, hI.trans (hb'.mono hI.size), hb'⟩
                        · intro a u vs hI hold hdep
                          exact opAt_go (j := 27) (t := 155) (b := false) rfl rfl (Vs.dep (hdep ⟨27, .guard⟩ (by simp) rfl (by decide)) rfl) (wp_still (ex_notB (.tmp 161) _ true rfl (Vs.dep (hdep ⟨33, .data⟩ (by simp) rfl (by decide)) rfl)) rfl rfl hI)
                      intro vs u hI hF
                      have e0 : vs 0 = .slice (some ⟨g7, 0, none⟩) n7 cp := (Option.some.inj (hF 0 (by decide))).symm
                      have e1 : vs 1 = .int .i64 (j : Int) := (Option.some.inj (hF 1 (by decide))).symm
                      have e2 : vs 2 = .pointer (some ⟨g7, j * 12, none⟩) := (Option.some.inj (hF 2 (by decide))).symm
                      have e3 : vs 3 = .pointer (some ⟨g7, j * 12 + 11, none⟩) := (Option.some.inj (hF 3 (by decide))).symm
                      have e4 : vs 4 = .int .i64 f.til := (Option.some.inj (hF 4 (by decide))).symm
                      have e5 : vs 5 = .int .i64 A := (Option.some.inj (hF 5 (by decide))).symm
                      have e6 : vs 6 = .bool false := (Option.some.inj (hF 6 (by decide))).symm
                      have e7 : vs 7 = .bool false := (Option.some.inj (hF 7 (by decide))).symm
                      have e8 : vs 8 = .int .i64 (j : Int) := (Option.some.inj (hF 8 (by decide))).symm
                      have e9 : vs 9 = .bool true := (Option.some.inj (hF 9 (by decide))).symm
                      have e10 : vs 10 = .bool true := (Option.some.inj (hF 10 (by decide))).symm
                      have e11 : vs 11 = .slice (some ⟨g7, 0, none⟩) n7 cp := (Option.some.inj (hF 11 (by decide))).symm
                      have e12 : vs 12 = .int .i64 (j : Int) := (Option.some.inj (hF 12 (by decide))).symm
                      have e13 : vs 13 = .pointer (some ⟨g7, j * 12, none⟩) := (Option.some.inj (hF 13 (by decide))).symm
                      have e14 : vs 14 = .pointer (some ⟨g7, j * 12, none⟩) := (Option.some.inj (hF 14 (by decide))).symm
                      have e15 : vs 15 = .pointer (some ⟨g7, j * 12 + 3, none⟩) := (Option.some.inj (hF 15 (by decide))).symm
                      have e16 : vs 16 = .int .u16 (f.th.sp : Int) := (Option.some.inj (hF 16 (by decide))).symm
                      have e17 : vs 17 = .slice (some ⟨g7, 0, none⟩) n7 cp := (Option.some.inj (hF 17 (by decide))).symm
                      have e18 : vs 18 = .int .i64 (j : Int) := (Option.some.inj (hF 18 (by decide))).symm
                      have e19 : vs 19 = .int .i64 ((j - 1 : Nat) : Int) := (Option.some.inj (hF 19 (by decide))).symm
                      have e20 : vs 20 = .pointer (some ⟨g7, (j - 1) * 12, none⟩) := (Option.some.inj (hF 20 (by decide))).symm
                      have e21 : vs 21 = .pointer (some ⟨g7, (j - 1) * 12, none⟩) := (Option.some.inj (hF 21 (by decide))).symm
                      have e22 : vs 22 = .pointer (some ⟨g7, (j - 1) * 12 + 3, none⟩) := (Option.some.inj (hF 22 (by decide))).symm
                      have e23 : vs 23 = .int .u16 (f1.th.sp : Int) := (Option.some.inj (hF 23 (by decide))).symm
                      have e24 : vs 24 = .bool false := (Option.some.inj (hF 24 (by decide))).symm
                      have e25 : vs 25 = .bool false := (Option.some.inj (hF 25 (by decide))).symm
                      have e26 : vs 26 = .bool false := (Option.some.inj (hF 26 (by decide))).symm
                      have e27 : vs 27 = .bool false := (Option.some.inj (hF 27 (by decide))).symm
                      have e28 : vs 28 = .slice a2 n2 c2 := (Option.some.inj (hF 28 (by decide))).symm
                      have e29 : vs 29 = .slice (some ⟨g7, 0, none⟩) n7 cp := (Option.some.inj (hF 29 (by decide))).symm
                      have e30 : vs 30 = .int .i64 (j : Int) := (Option.some.inj (hF 30 (by decide))).symm
                      have e31 : vs 31 = .pointer (some ⟨g7, j * 12, none⟩) := (Option.some.inj (hF 31 (by decide))).symm
                      have e32 : vs 32 = .agg f.cells := (Option.some.inj (hF 32 (by decide))).symm
                      have e33 : vs 33 = .bool true := (Option.some.inj (hF 33 (by decide))).symm
                      have e34 : vs 34 = .bool false := (Option.some.inj (hF 34 (by decide))).symm
                      clear hF
                      simp only [List.drop_succ_cons, List.drop_zero, puts, List.range, List.range.loop, List.foldr, if_true, List.getD_cons_zero, List.getD_cons_succ, e0, e1, e2, e3, e4, e5, e6, e7, e8, e9, e10, e11, e12, e13, e14, e15, e16, e17, e18, e19, e20, e21, e22, e23, e24, e25, e26, e27, e28, e29, e30, e31, e32, e33, e34, Act.put, List.setIfInBounds_toArray, List.set_cons_zero, List.set_cons_succ]
                      clear e0 e1 e2 e3 e4 e5 e6 e7 e8 e9 e10 e11 e12 e13 e14 e15 e16 e17 e18 e19 e20 e21 e22 e23 e24 e25 e26 e27 e28 e29 e30 e31 e32 e33 e34
                      have HBU := hid (HBX.out.trans (hI.mono HBX.out.size))
                      clear hI
                      go_wp2_with fail
                      go_meet
                      exact ⟨by first | rfl | simp, _, rfl, HBU⟩
                case rest =>
                as_aux_lemma =>
                  obtain ⟨rfl, y1, hww, HBy1⟩ := hcut
                  obtain rfl : y1 = wc := hww
                  clear HHAS HFA HBX
                  go_upto_region 31 with fail
                  have HLTy1 := hid (HEL.out y1 HBy1.out).1
                  have HMDy1 := hid (made_sees f.th 0 y1 (by rw [HFX.out]; exact xE_ok HPP.out) (by omega))
                  go_wp2_with (first | (refine wpList_val (ex_index 29 (.tmp 165) (.tmp 166) _ _ _ rfl rfl rfl (idxFl HJN.out _)) rfl ?_) | (refine wpList_val (ex_field 44 ⟨g7, j * 12, none⟩ (.tmp 167) 0 _ rfl rfl (fl_th g7 (j * 12) _)) rfl ?_) | (refine wpList_ld 34 ⟨g7, j * 12, none⟩ (.tmp 168) rfl rfl HLTy1.out rfl ?_) | fail)
                  refine HMDy1.out.mono ?_
                  rintro _ y2 ⟨ao, n1, c1, rfl, hs2, hb2⟩
                  have HBy2 := hid (HBy1.out.trans (hb2.mono HBy1.out.size))
                  have HLKy1 := hid ((HE7.out.wd.below HBy2.out).look HLQ.out (t := f.th) (by rw [HFX.out]; exact xE_ok HPP.out) (by rw [HFX.out]; rfl) (fun r hr => ⟨(HFN.out r hr).1, (HFN.out r hr).2.1⟩) ao n1 c1 hs2)
                  clear hs2 hb2 HMDy1 HLTy1
                  go_wp2_with fail
                  refine HLKy1.out.mono ?_
                  rintro _ y3 ⟨rfl, hb3⟩
                  have HBy3 := hid (HBy2.out.trans (hb3.mono HBy2.out.size))
                  have HNy3 : Hid ((y3.alloc (.cells #[.int .i64 0, .int .u32 0, .int .u32 0, .int .u8 0, .int .u16 0, .int .u16 0, .int .u32 0, .int .u32 0, .int .u8 0, .int .u16 0, .int .u16 0, .int .i64 0, .int .i64 0, .bool false] 49)).heap[y3.heap.size]? = some (.cells zTr 49 (0, 0))) := heap_alloc_new _ _
                  clear hb3 HLKy1
                  go_upto_region 32 with (first | (refine wpList_st rfl 49 (.tmp 19) (.tmp 171) rfl y3.heap.size (trC 1 zFw false) rfl rfl _ zTr HNy3.out (by kernel_rfl) rfl (trC_one _ _ _) ?_; intro y4 hw4 hbut4) | fail)
                  obtain ⟨g19, HGg19⟩ : ∃ g, Hid (g = y3.heap.size) := ⟨_, rfl⟩
                  have hb4 : Below y3.heap.size y3 y4 := hbut4.below ((Below.refl _ _).alloc (Nat.le_refl _) _) (by simp) (Nat.le_refl _)
                  rw [← HGg19.out] at hw4 ⊢
                  have HBy4 := hid (HBy3.out.trans (hb4.mono HBy3.out.size))
                  have HRg19 := hid hw4
                  clear hw4 hbut4 HNy3
                  clear hb4
                  have HLTy4 := hid (HEL.out y4 HBy4.out).2.1
                  have HMDy4 := hid (made_sees f.bk 0 y4 (by rw [HFB.out]; exact (xE_ok HPP.out).back) (by omega))
                  go_wp2_with (first | (refine wpList_val (ex_index 29 (.tmp 173) (.tmp 174) _ _ _ rfl rfl rfl (idxFl HJN.out _)) rfl ?_) | (refine wpList_val (ex_field 44 ⟨g7, j * 12, none⟩ (.tmp 175) 1 _ rfl rfl (fl_bk g7 (j * 12) _)) rfl ?_) | (refine wpList_ld 34 ⟨g7, j * 12 + 5, none⟩ (.tmp 176) rfl rfl HLTy4.out rfl ?_) | fail)
                  refine HMDy4.out.mono ?_
                  rintro _ y5 ⟨ao, n1, c1, rfl, hs2, hb2⟩
                  have HBy5 := hid (HBy4.out.trans (hb2.mono HBy4.out.size))
                  have HBx5 := hid hb2
                  have HLKy4 := hid ((HE7.out.wd.below HBy5.out).look HLQ.out (t := f.bk) (by rw [HFB.out]; exact (xE_ok HPP.out).back) (by rw [HFB.out]; rfl) (fun r hr => ⟨(HFN.out r hr).2.2.1, (HFN.out r hr).2.2.2⟩) ao n1 c1 hs2)
                  clear hs2 hb2 HMDy4 HLTy4
                  go_wp2_with fail
                  refine HLKy4.out.mono ?_
                  rintro _ y6 ⟨rfl, hb3⟩
                  have HBy6 := hid (HBy5.out.trans (hb3.mono HBy5.out.size))
                  have HBx4 := hid (HBx5.out.trans (hb3.mono HBx5.out.size))
                  have HNy6 : Hid ((y6.alloc (.cells #[.int .i64 0, .int .u32 0, .int .u32 0, .int .u8 0, .int .u16 0, .int .u16 0, .int .u32 0, .int .u32 0, .int .u8 0, .int .u16 0, .int .u16 0, .int .i64 0, .int .i64 0, .bool false] 49)).heap[y6.heap.size]? = some (.cells zTr 49 (0, 0))) := heap_alloc_new _ _
                  clear hb3 HLKy4
                  go_upto_region 33 with (first | (refine wpList_st rfl 49 (.tmp 20) (.tmp 179) rfl y6.heap.size (trC 1 zFw false) rfl rfl _ zTr HNy6.out (by kernel_rfl) rfl (trC_one _ _ _) ?_; intro y7 hw4 hbut4) | fail)
                  obtain ⟨g20, HGg20⟩ : ∃ g, Hid (g = y6.heap.size) := ⟨_, rfl⟩
                  have hb4 : Below y6.heap.size y6 y7 := hbut4.below ((Below.refl _ _).alloc (Nat.le_refl _) _) (by simp) (Nat.le_refl _)
                  rw [← HGg20.out] at hw4 ⊢
                  have HBy7 := hid (HBy6.out.trans (hb4.mono HBy6.out.size))
                  have HRg20 := hid hw4
                  clear hw4 hbut4 HNy6
                  have hr19 : y7.heap[g19]? = some (.cells (trC 1 zFw false) 49 (0, 0)) := below_keeps (HBx4.out.trans (hb4.mono HBx4.out.size)) HRg19.out (Array.getElem?_eq_some_iff.1 HRg19.out).1
                  have c19 : y7.cell? ⟨g19, 0, none⟩ = some (.int .i64 1) := by rw [cell_of_row _ _ _ _ _ _ hr19]; rfl
                  have c20 : y7.cell? ⟨g20, 0, none⟩ = some (.int .i64 1) := by rw [cell_of_row _ _ _ _ _ _ HRg20.out]; rfl
                  clear hb4 hr19
                  go_wp2_with fail
                  go_roundw
                  case rel => exact ⟨j + 1, rfl, by omega, HBy7⟩
                  case measure => simp; omega
            · as_aux_lemma =>
                obtain ⟨l7, HLL⟩ : ∃ l, Hid (l = L7.length) := ⟨_, rfl⟩
                have HLS := hid ((HE7.out.wd.below HBX.out).list HLQ.out)
                rw [← HLL.out] at HLS
                have hjj : j = n7 := by omega
                have s1 : IntKind.i64.wrap ((m : Int) + (n7 : Int)) = ((m + n7 : Nat) : Int) := by rw [IntKind.wrap_i64]; omega
                have s2 : IntKind.i64.wrap ((n : Int) - ((m + n7 : Nat) : Int)) = (l7 : Int) := by
                  rw [IntKind.wrap_i64]
                  have := HD1.out
                  have := HML.out
                  rw [← HLL.out] at *
                  omega
                have hmn : m + n7 ≤ n := by have := HD1.out; have := HML.out; omega
                have HML2 : Hid (m + n7 + L7.length = n) := by unfold Hid; have := HD1.out; have := HML.out; omega
                have HA2 : Hid (A + 1 = nw - 200 + ((k + 1 : Nat) : Int)) := by unfold Hid; have := HA.out; omega
                obtain ⟨mm, HMM⟩ : ∃ mm, Hid (mm = m + n7) := ⟨_, rfl⟩
                rw [← HMM.out] at s1 s2 hmn HML2
                clear hjj
                go_wp2_with fail
                refine HLS.out.mono ?_
                rintro _ y2 ⟨ao3, cp3, rfl, hb3⟩
                have HE9 := hid (HE7.out.below (HBX.out.trans (hb3.mono HBX.out.size)))
                clear hb3 HLS
                go_wp2_with fail
                go_roundw
                case rel => exact ⟨k + 1, mm, A + 1, q7, L7, rfl, rfl, by omega, hmn, HA2, HML2, HE9⟩
                case measure => simp; omega
      · as_aux_lemma =>
          have hk4 : k = 432 := by omega
          subst hk4
          have hL4 := HE4.out.done
          subst hL4
          have hmn : m = n := by have := HML.out; simpa using this
          subst hmn
          have hA1 : ¬ (A ≤ nw + 231) := by have := HA.out; omega
          have HE5 := hid HE4.out.last
          clear HE4 HML HA
          go_wp2_with fail
          go_loopw [21] (fun iv wx => ∃ (i3 : Nat) (q5 : Raw) (L5 : List (Int × Fw)), iv = .int .i64 (i3 : Int) ∧ i3 ≤ 40 ∧ Hid (E3 w wx b q5 L5 (.slice a2 n2 c2) W i3)) (fun iv _ => match iv with | .int _ z => 40 - z.toNat | _ => 0)
          case atStart => exact ⟨0, q4, [], rfl, by omega, HE5⟩
          case round =>
            obtain ⟨i3, q5, L5, rfl, hi3, HE8⟩ := hrel
            by_cases hi4 : i3 < 40
            · as_aux_lemma =>
                have wu : IntKind.u16.wrap (i3 : Int) = (i3 : Int) := by
                  rw [show IntKind.u16.wrap (i3 : Int) = (i3 : Int) % 65536 from rfl]
                  omega
                have HN3 : Hid ((wr.alloc (.cells #[.int .u32 0, .int .u32 0, .int .u8 0, .int .u16 0, .int .u16 0] 34)).heap[wr.heap.size]? = some (.cells zTu.cells 34 (0, 0))) := heap_alloc_new _ _
                go_upto_region 42 with (first | (refine wpList_st rfl 34 (.tmp 22) (.tmp 205) rfl wr.heap.size (xG i3).cells rfl rfl _ zTu.cells HN3.out (by kernel_rfl) rfl (Tu.one _) ?_; intro w3 hw3 hbut3) | fail)
                have hb3 : Below wr.heap.size wr w3 := hbut3.below ((Below.refl _ _).alloc (Nat.le_refl _) _) (by simp) (Nat.le_refl _)
                obtain ⟨g14, HG14⟩ : ∃ g, Hid (g = wr.heap.size) := ⟨_, rfl⟩
                rw [← HG14.out] at hw3 ⊢
                have HX3 : Hid (∀ u : World, Below w3.heap.size w3 u → (Instr.loadAt 34 (.pointer (some ⟨g14, 0, none⟩))).run Tryz.prog u = .ok (.agg (xG i3).cells) u) := fun u hu => load_tu (below_keeps hu hw3 (Array.getElem?_eq_some_iff.1 hw3).1)
                have HPO := hid (xG_ok (p := i3) (by omega))
                have HB3 := hid hb3
                have HRM := hid (HE8.out.room hi4)
                obtain ⟨X, HX⟩ : ∃ X, Hid (X = xG i3) := ⟨_, rfl⟩
                rw [← HX.out] at HX3 HPO HRM
                clear hw3 hbut3 hb3 HN3 wu
                refine wp_region_guarded' 6 (fun i => ([206, 207, 208, 209, 210, 211] : List Tmp).getD i 0) (FM [.pointer (some ⟨b, 0, none⟩), .agg X.cells, .agg X.cells, .agg X.back.cells, .agg X.cells, undef] 5 (mdH X) (mdB X 0)) (fun u => Below w3.heap.size w3 u) (fun _ u u' => Below u.heap.size u u') (by kernel_rfl) (by kernel_rfl) ⟨rfl, rfl, rfl, Nat.le_refl _, fun _ _ => rfl⟩ (fun _ _ _ _ _ _ h _ hr => h.keeps hr) ?_ ?_
                · simp only [List.take_succ_cons, List.take_zero, stepsG]
                  refine ⟨?_, ?_, ?_, ?_, ?_, ?_, trivial⟩
                  · intro a u vs hI hold hdep
                    exact opAt_plain rfl (fm_still (ex_move (.tmp 9) _ rfl (hold 9 (dlM (L := [206, 207, 208, 209, 210, 211]) (by decide)))) (by decide) rfl rfl hI)
                  · intro a u vs hI hold hdep
                    exact opAt_plain rfl (fm_still (ex_load _ ⟨g14, 0, none⟩ (.tmp 22) _ rfl (hold 22 (dlM (L := [206, 207, 208, 209, 210, 211]) (by decide))) (HX3.out u hI)) (by decide) rfl rfl hI)
                  · intro a u vs hI hold hdep
                    exact opAt_plain rfl (fm_still (ex_load _ ⟨g14, 0, none⟩ (.tmp 22) _ rfl (hold 22 (dlM (L := [206, 207, 208, 209, 210, 211]) (by decide))) (HX3.out u hI)) (by decide) rfl rfl hI)
                  · intro a u vs hI hold hdep
                    have e0 : a.eval (.tmp 208) = .agg X.cells := (FM.dep (hdep ⟨2, .data⟩ (by simp) rfl (by decide)) (by decide) rfl)
                    refine opAt_plain rfl ?_
                    refine wp_call 11 _ _ rfl (enters_of Tryz.func11 (by kernel_rfl) rfl) #[.agg X.cells] (by simp only [List.map_toArray, List.map_cons, List.map_nil, e0]) ?_
                    refine (back_any X u).mono ?_
                    rintro _ u' ⟨rfl, hb'⟩
                    exact ⟨_, rfl, _, rfl, fm_mk (by decide) rfl, hI.trans (hb'.mono hI.size), hb'⟩
                  · intro a u vs hI hold hdep
                    exact opAt_plain rfl (fm_still (ex_load _ ⟨g14, 0, none⟩ (.tmp 22) _ rfl (hold 22 (dlM (L := [206, 207, 208, 209, 210, 211]) (by decide))) (HX3.out u hI)) (by decide) rfl rfl hI)
                  · intro a u vs hI hold hdep
                    have e0 : a.eval (.tmp 210) = .agg X.cells := (FM.dep (hdep ⟨4, .data⟩ (by simp) rfl (by decide)) (by decide) rfl)
                    have e1 : a.eval (.const (.int .u8 (0 : Int))) = .int .u8 (0 : Int) := rfl
                    refine opAt_plain rfl ?_
                    refine wp_call 12 _ _ rfl (enters_of Tryz.func12 (by kernel_rfl) rfl) #[.agg X.cells, .int .u8 (0 : Int)] (by simp only [List.map_toArray, List.map_cons, List.map_nil, e0, e1]) ?_
                    refine (made_sees X 0 u HPO.out (by omega)).mono ?_
                    rintro _ u' ⟨ao, n, cap, rfl, hs', hb'⟩
                    exact ⟨_, rfl, _, rfl, fm_made rfl hs', hI.trans (hb'.mono hI.size), hb'⟩
                intro vs u hI hF
                have e0 : vs 0 = .pointer (some ⟨b, 0, none⟩) := (hF 0 (by decide)).is (by decide) rfl
                have e1 : vs 1 = .agg X.cells := (hF 1 (by decide)).is (by decide) rfl
                have e2 : vs 2 = .agg X.cells := (hF 2 (by decide)).is (by decide) rfl
                have e3 : vs 3 = .agg X.back.cells := (hF 3 (by decide)).is (by decide) rfl
                have e4 : vs 4 = .agg X.cells := (hF 4 (by decide)).is (by decide) rfl
                have hM := (hF 5 (by decide)).made rfl
                clear hF
                simp only [List.drop_succ_cons, List.drop_zero, puts, List.range, List.range.loop, List.foldr, if_true, List.getD_cons_zero, List.getD_cons_succ, e0, e1, e2, e3, e4, Act.put, List.setIfInBounds_toArray, List.set_cons_zero, List.set_cons_succ]
                clear e0 e1 e2 e3 e4
                obtain ⟨ao, nx, cx, hM5, hse⟩ := hM
                rw [hM5]
                have hbu : Below wr.heap.size wr u := HB3.out.trans (hI.mono HB3.out.size)
                have HOPEN := hid (HE8.out.wd.open hbu (by have := HE8.out.la; omega) HPO.out (by rw [HX.out]; rfl) (now := 0) ⟨by omega, by omega⟩ ao nx cx hse)
                clear hI hM5 hse hbu
                go_wp2_with fail
                refine HOPEN.out.mono ?_
                rintro _ w5 ⟨err, q6, L6, rfl, hw5, -, herr, h0, h1⟩
                rw [HRM.out] at herr
                subst herr
                obtain ⟨rfl, hla⟩ := h0 rfl
                have HE9 : Hid (E3 w w5 b q6 (L5 ++ [(q5.last + 1, udF X 0)]) (.slice a2 n2 c2) W (i3 + 1)) := by
                  unfold Hid
                  rw [HX.out] at hw5 ⊢
                  exact HE8.out.step hw5 hla
                clear hw5 h0 h1 hla HOPEN
                go_wp2_with fail
                go_roundw
                case rel => exact ⟨i3 + 1, q6, _, rfl, by omega, HE9⟩
                case measure => simp; omega
            · go_wp2_with fail
              go_ret
              exact ⟨by first | rfl | simp, HE8.out.wd.bel⟩
end Go.Proofs.YthmhiehglcfepaaGreatDoor.Fl
