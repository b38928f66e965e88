import Derived.Test.YthbjfbalgejndaaTM
namespace Go.Proofs.Ythbjfbalgejndaa
open Go.ChangeShapes Go.WideShapes Go.ChangeAt Go.RowKit Go.Maps H
set_option maxHeartbeats 2000000
set_option maxRecDepth 100000

theorem hasS_has (S : List Dl) (i : Int) : hasS S i = has' S i := rfl

theorem set_ok {S : List Dl} {lim i a : Int} (h : has' S i = true ∨ (S.length : Int) < lim) : setE S lim i = 0 ∧ setR S lim (i, a) = setS S (i, a) := by
  unfold setE setR
  exact ⟨if_pos h, if_pos h⟩

theorem sorts_walk (v : Value) (L : List Dl) (now : Int) (w : World) (hv : SeesP w v L) (hl : L.length ≤ 8796093022208) (hnow : In64 now) :
    Calls Try.prog 5 #[v, .int .i64 now] w fun e w' => e = .returned (.bool true) ∧ Below w.heap.size w w' := by
  obtain ⟨ao, n, cap, rfl, HN, hn1, hn2⟩ := hv.shape
  have HV := hid hv
  have HIN := hid hv.in64
  have HNOW := hid hnow
  have hnl : n ≤ 8796093022208 := by have := HN.out; omega
  have HBG := hid (begun_any w)
  have HLA : Hid (∀ u, Below w.heap.size w u → Calls Try.prog 19 #[.slice ao n cap] u fun e w' => ∃ v', e = .returned v' ∧ OwnP w' u.heap.size v' (lastL L) ∧ Below u.heap.size u w') := fun u hu => last_any _ L u (hv.below hu) hl
  unfold maxLen at hn2
  clear hv hl
  go_enter Try.func5, Try.ntmps5
  go_wp2_with fail
  refine HBG.out.mono ?_
  rintro _ w1 ⟨rfl, hb1⟩
  have HL1 := hid (HLA.out w1 hb1)
  have HB1 := hid hb1
  clear hb1 HBG HLA
  go_wp2_with fail
  refine HL1.out.mono ?_
  rintro _ w2 ⟨vl, rfl, hol, hb2⟩
  have hin2 : ∀ x ∈ lastL L, In64 x.1 ∧ In64 x.2 := fun x hx => HIN.out x (lastL_mem L x hx)
  have hs2 := hol.sees hin2
  obtain ⟨al, nl, cl, rfl, _, _, _⟩ := hs2.shape
  have HIO := inOrder_any _ _ w2 hs2 (by have := lastL_len L; have := HN.out; omega) (lastL_ids L)
  rw [← setF_eq] at HIO
  have HIO := hid HIO
  have HB2 := hid (HB1.out.trans (hb2.mono HB1.out.size))
  clear hol hs2 hb2 HL1 hin2
  go_wp2_with fail
  refine HIO.out.mono ?_
  rintro _ w3 ⟨vw, rfl, how, hb3⟩
  have HWIN : Hid (∀ x ∈ setF L, In64 x.1 ∧ In64 x.2) := fun x hx => HIN.out x (lastL_mem L x ((setF_mem L x).1 hx))
  have hsw := how.sees HWIN.out
  obtain ⟨aw, nw, cw, rfl, HNW, hw1, hw2⟩ := hsw.shape
  have HB3 := hid (HB2.out.trans (hb3.mono HB2.out.size))
  have HSW := hid hsw
  have HSRT := hid (setF_sorted L)
  have HIDS := hid (setF_idsM L)
  unfold maxLen at hw2
  clear how hsw hb3 HIO HB1 HB2
  by_cases h0 : nw = 0
  · subst h0
    go_wp2_with fail
    go_ret
    exact ⟨rfl, HB3.out⟩
  by_cases h65 : 65536 < nw
  · have hq0 : ((nw : Int) == 0) = false := by simp; omega
    go_wp2_with fail
    go_ret
    exact ⟨rfl, HB3.out⟩
  have hq0 : ((nw : Int) == 0) = false := by simp; omega
  have hw6 : nw ≤ 65536 := by omega
  have HNE := hid (new_good (nw : Int) w3 (by omega) (by omega))
  clear h65
  go_wp2_with fail
  refine HNE.out.mono ?_
  rintro _ w4 ⟨b1, m1, rfl, hT1, hb1, hm1, _, hb4⟩
  have HNE2 := hid (new_good 65536 w4 (by decide) (by decide))
  have HT1 := hid hT1
  have HF1 : Hid (∀ x ∈ fp b1 m1 none, w3.heap.size ≤ x) := fun x hx => by simp [fp] at hx; rcases hx with rfl | rfl <;> assumption
  have HB34 := hid hb4
  clear hT1 hb1 hm1 hb4 HNE
  go_wp2_with fail
  refine HNE2.out.mono ?_
  rintro _ w5 ⟨b2, m2, rfl, hT2, hb2, hm2, _, hb5⟩
  have HTW : Hid (Two w3.heap.size w5 b1 m1 none (nw : Int) (setF (L.take 0)) b2 m2 none 65536 (setF (L.take 0))) := Two.made HT1.out HF1.out hT2 hb2 hm2 HB34.out.size hb5
  have HB35 : Hid (Below w3.heap.size w3 w5) := HB34.out.trans (hb5.mono HB34.out.size)
  clear hT2 hb2 hm2 hb5 HNE2 HT1 HF1 HB34
  go_wp2_with fail
  go_loopw [11] (fun i wv => ∃ (k : Nat) (g1 g2 : Option Nat) (wr : World), wr = wv ∧ i = .int .i64 k ∧ k ≤ n ∧ Hid (Two w3.heap.size wr b1 m1 g1 (nw : Int) (setF (L.take k)) b2 m2 g2 65536 (setF (L.take k))) ∧ Hid (Below w3.heap.size w3 wr)) (fun i _ => n - (intOf i).toNat)
  case atStart => exact ⟨0, none, none, _, rfl, rfl, by omega, HTW, HB35⟩
  case round =>
    clear HTW HB35
    obtain ⟨k, g1, g2, u, rfl, rfl, hk, HTW, HBU⟩ := hrel
    by_cases hlt : k < n
    · have hbwu : Below w.heap.size w u := HB3.out.trans (HBU.out.mono HB3.out.size)
      obtain ⟨g0, o0, d, rfl, hg0, e0, e1, hd, HD⟩ := (HV.out.below hbwu).at k hlt
      have hroom := setF_room HD.out
      have HSN : Hid (setF (L.take (k + 1)) = setS (setF (L.take k)) d) := setF_snoc HD.out
      have hnw : nw = (setF L).length := HNW.out
      have r1 : has' (setF (L.take k)) d.1 = true ∨ ((setF (L.take k)).length : Int) < (nw : Int) := by rcases hroom with h | h; exact .inl h; exact .inr (by omega)
      have r2 : has' (setF (L.take k)) d.1 = true ∨ ((setF (L.take k)).length : Int) < 65536 := by rcases hroom with h | h; exact .inl h; exact .inr (by omega)
      have s1 := set_ok (a := d.2) r1
      have s2 := set_ok (a := d.2) r2
      have HS1 := (HTW.out.below (w' := u.drew) (below_drew (Below.refl _ _))).set1 HBU.out.size d.1 d.2 hd.1 hd.2
      rw [s1.1, s1.2] at HS1
      have HS1 := hid HS1
      have HS2 : Hid (∀ x g, Two w3.heap.size x b1 m1 g (nw : Int) (setS (setF (L.take k)) (d.1, d.2)) b2 m2 g2 65536 (setF (L.take k)) → w3.heap.size ≤ x.heap.size → Calls Try.prog 13 #[.pointer (some ⟨b2, 0, none⟩), .int .i64 d.1, .int .i64 d.2] x fun e w' => ∃ g', e = .returned (.int .i64 0) ∧ Two w3.heap.size w' b1 m1 g (nw : Int) (setF (L.take (k + 1))) b2 m2 g' 65536 (setF (L.take (k + 1))) ∧ Below w3.heap.size x w') := fun x g hx hsz => by
        have := hx.swap.set1 hsz d.1 d.2 hd.1 hd.2
        rw [s2.1, s2.2] at this
        refine this.mono ?_
        rintro e w' ⟨g', he, ht, hb⟩
        refine ⟨g', he, ?_, hb⟩
        rw [HSN.out]
        exact ht.swap
      have HCE : Hid (∀ x, Below w3.heap.size w3 x → x.cell? ⟨g0, o0 + k * 2, none⟩ = some (.int .i64 d.1) ∧ x.cell? ⟨g0, o0 + k * 2 + 1, none⟩ = some (.int .i64 d.2)) := fun x hx => by
        obtain ⟨g0', o0', d', eg, _, c0, c1, _, HD'⟩ := (HV.out.below (HB3.out.trans (hx.mono HB3.out.size))).at k hlt
        simp at eg
        obtain ⟨rfl, rfl⟩ := eg
        obtain rfl : d' = d := by have := HD'.out; rw [HD.out] at this; exact (Option.some.inj this).symm
        exact ⟨c0, c1⟩
      clear s1 s2 r1 r2 hroom hnw hbwu HTW hd
      generalize hd1 : d.1 = z0 at *
      generalize hd2 : d.2 = z1 at *
      clear hd1 hd2
      go_upto_region 14 with fail
      go_cut [8] from 57 to 92 (fun e wx => ∃ g x, x = wx ∧ e = .int .i64 0 ∧ Hid (Two w3.heap.size x b1 m1 g (nw : Int) (setS (setF (L.take k)) (z0, z1)) b2 m2 g2 65536 (setF (L.take k))) ∧ Hid (Below w3.heap.size w3 x))
      case first =>
        go_region_with (first | (go_at_call 13; refine HS1.out.mono ?_; rintro _ x1 ⟨gg, rfl, ht1, hbx1⟩) | fail)
        all_goals (
          go_wp2_with fail
          go_meet
          case rel => exact ⟨gg, _, rfl, rfl, ht1, (below_drew HBU.out).trans hbx1⟩)
      case rest =>
      obtain ⟨gg, x1, hx1, rfl, HT2, HBX1⟩ := hcut
      subst hx1
      obtain ⟨c0, c1⟩ := HCE.out _ HBX1.out
      have HS2' := hid (HS2.out _ gg (HT2.out.below (w' := World.drew _) (below_drew (Below.refl _ _))) HBX1.out.size)
      clear e0 e1 HS1 HS2
      go_upto_region 15 with fail
      go_cut [10] from 57 to 92 (fun e wx => ∃ g' x, x = wx ∧ e = .int .i64 0 ∧ Hid (Two w3.heap.size x b1 m1 gg (nw : Int) (setF (L.take (k + 1))) b2 m2 g' 65536 (setF (L.take (k + 1)))) ∧ Hid (Below w3.heap.size w3 x))
      case first =>
        go_region_with (first | (go_at_call 13; refine HS2'.out.mono ?_; rintro _ x2 ⟨g', rfl, ht2, hbx2⟩) | fail)
        all_goals (
          go_wp2_with fail
          go_meet
          case rel => exact ⟨g', _, rfl, rfl, ht2, (below_drew HBX1.out).trans hbx2⟩)
      case rest =>
      obtain ⟨g', x2, hx2, rfl, HT3, HBX2⟩ := hcut
      subst hx2
      clear c0 c1 HS2' HT2 HBX1
      go_wp2_with fail
      go_roundw
      case rel => exact ⟨k + 1, gg, g', _, rfl, by go_num, by omega, HT3, HBX2⟩
      case measure => simp [intOf]; omega
    · have HEQ : Hid (setF (L.take k) = setF L) := by unfold Hid; rw [List.take_of_length_le (by have := HN.out; omega)]
      rw [HEQ.out] at HTW
      have HL1 := len_any b1 m1 g1 (nw : Int) (setF L) u HTW.out.one
      have HL2 := len_any b2 m2 g2 65536 (setF L) u HTW.out.two
      rw [← HNW.out] at HL1 HL2
      have HL1 := hid HL1
      have HL2 := hid HL2
      have hqn : ((nw : Int) != (nw : Int)) = false := by simp
      have HSW5 : Hid (∀ x, Below w3.heap.size w3 x → SeesP x (.slice aw nw cw) (setF L)) := fun x hx => HSW.out.below hx
      have HBWX : Hid (∀ x, Below w3.heap.size w3 x → Below w.heap.size w x) := fun x hx => HB3.out.trans (hx.mono HB3.out.size)
      generalize setF L = W at *
      clear HEQ
      go_wp2_with fail
      refine HL1.out.mono ?_
      rintro _ y1 ⟨rfl, e⟩
      obtain rfl := e.symm
      go_wp2_with fail
      refine HL2.out.mono ?_
      rintro _ y2 ⟨rfl, e⟩
      obtain rfl := e.symm
      obtain ⟨tk1, tk2⟩ := dueT_take W now
      have HDU := hid (HTW.out.swap.due1 HBU.out.size now HNOW.out)
      have hel : (dueT W now).length ≤ nw := by rw [HNW.out, tk1, List.length_take]; omega
      have HTK1 := hid tk1
      have HTK2 := hid tk2
      clear HL1 HL2 tk1 tk2
      go_wp2_with fail
      refine HDU.out.mono ?_
      rintro _ x6 ⟨ve, rfl, hoe, htw6, hb6, hf6⟩
      have HDU2 := htw6.due1 (Nat.le_trans HBU.out.size (by have := hf6.size; exact this)) 9223372036854775807 ⟨by decide, by decide⟩
      have hall := due_all (S := dueR W now) (now := 9223372036854775807) (fun x hx => (htw6.one.in64 x hx).2.hi)
      rw [hall.1, hall.2] at HDU2
      have HDU2 := hid HDU2
      have HOE := hid hoe
      have HNF : Hid (∀ x ∈ fp b1 m1 g1, w3.heap.size ≤ x) := HTW.out.n1
      have HLT6 : Hid ((∀ x ∈ fp b1 m1 g1, x < u.heap.size) ∧ (∀ x ∈ fp b2 m2 g2, x < u.heap.size)) := ⟨HTW.out.one.lt, HTW.out.two.lt⟩
      have HSZ6 : Hid (u.heap.size ≤ x6.heap.size) := hf6.size
      have HB6 := hid (HBU.out.trans hb6)
      obtain ⟨ae, ce, rfl⟩ : ∃ ae ce, ve = .slice ae (dueT W now).length ce := by
        rcases hoe.2 with ⟨h, hn⟩ | ⟨g, cap, cur, h, _⟩
        · exact ⟨none, 0, by rw [h]; rw [List.length_map] at hn; rw [hn]⟩
        · exact ⟨some ⟨g, 0, none⟩, cap, by rw [h, List.length_map]⟩
      clear hoe htw6 hb6 hf6 HDU hall
      go_wp2_with fail
      refine HDU2.out.mono ?_
      rintro _ x7 ⟨vf, rfl, hof, htw7, hb7, hf7⟩
      obtain ⟨ed, hed⟩ : ∃ ed, ed = (dueT W now).length := ⟨_, rfl⟩
      have tk1 := HTK1.out
      have tk2 := HTK2.out
      rw [← hed] at tk1 tk2 hel ⊢
      have hrl : (dueR W now).length = nw - ed := by rw [tk2, List.length_drop, HNW.out]
      obtain ⟨af, cf, rfl⟩ : ∃ af cf, vf = .slice af (nw - ed) cf := by
        rcases hof.2 with ⟨h, hn⟩ | ⟨g, cap, cur, h, _⟩
        · exact ⟨none, 0, by rw [h]; rw [List.length_map, hrl] at hn; rw [hn]⟩
        · exact ⟨some ⟨g, 0, none⟩, cap, by rw [h, List.length_map, hrl]⟩
      have HOE7 : Hid (OwnI x7 u.heap.size (.slice ae ed ce) ((W.take ed).map (·.1))) := by
        have := HOE.out.fr hf7 HLT6.out.2
        rw [← hed] at this
        unfold Hid
        rw [← tk1]
        exact this
      have HOF7 : Hid (OwnI x7 x6.heap.size (.slice af (nw - ed) cf) ((W.drop ed).map (·.1))) := by unfold Hid; rw [← tk2]; exact hof
      have HT7 := hid htw7.swap.one
      have HL7 := len_any b2 m2 g2 65536 [] x7 htw7.one
      have HL7 := hid HL7
      have HB7 := hid (HB6.out.trans hb7)
      have HDLT : Hid (∀ (i : Nat) (d : Dl), W[i]? = some d → (i < ed ↔ d.2 ≤ now)) := fun i d h => by rw [hed]; exact due_lt HSRT.out h
      have hsum : (ed : Int) + ((nw - ed : Nat) : Int) = (nw : Int) := by omega
      have hfdn : nw - ed + ed = nw := by omega
      clear hof htw7 hb7 hf7 HDU2 hrl tk1 tk2 hed HOE HTW HTK1 HTK2
      generalize nw - ed = fd at *
      go_wp2_with fail
      refine HL7.out.mono ?_
      rintro _ y3 ⟨rfl, e⟩
      obtain rfl := e.symm
      have HW0 : Hid (Tm x7 b1 m1 g1 (nw : Int) (W.drop 0)) := by rw [List.drop_zero]; exact HT7.out
      clear HL7 HT7
      go_wp2_with fail
      go_loopw [14] (fun i wv => ∃ (k : Nat) (wr : World), wr = wv ∧ i = .int .i64 k ∧ k ≤ nw ∧ Hid (Tm wr b1 m1 g1 (nw : Int) (W.drop k)) ∧ Hid (OwnI wr u.heap.size (.slice ae ed ce) ((W.take ed).map (·.1))) ∧ Hid (OwnI wr x6.heap.size (.slice af fd cf) ((W.drop ed).map (·.1))) ∧ Hid (Below w3.heap.size w3 wr)) (fun i _ => nw - (intOf i).toNat)
      case atStart => exact ⟨0, _, rfl, rfl, by omega, HW0, HOE7, HOF7, HB7⟩
      case round =>
        clear HW0 HOE7 HOF7 HB7
        obtain ⟨k2, x, rfl, rfl, hk2, HT, HE, HF, HBX⟩ := hrel
        have HNX := next_any b1 m1 g1 (nw : Int) (W.drop k2) x HT.out
        by_cases hlt2 : k2 < nw
        · obtain ⟨d, hd⟩ : ∃ d, W[k2]? = some d := ⟨W[k2]'(by have := HNW.out; omega), List.getElem?_eq_getElem _⟩
          have hdr : W.drop k2 = d :: W.drop (k2 + 1) := by
            have hkl := (List.getElem?_eq_some_iff.1 hd).1
            rw [List.drop_eq_getElem_cons hkl]
            congr 1
            rw [List.getElem?_eq_getElem hkl] at hd
            exact Option.some.inj hd
          have hdm : d ∈ W := List.mem_iff_getElem?.2 ⟨k2, hd⟩
          have hdin := HWIN.out d hdm
          have hdh : drp d.1 (d :: W.drop (k2 + 1)) = W.drop (k2 + 1) := by
            have h1 := HT.out.sorted
            have h2 := HT.out.ids
            rw [hdr] at h1 h2
            exact drp_head h1 h2
          rw [hdr] at HNX HT
          have hhas : hasS (d :: W.drop (k2 + 1)) d.1 = true := hasS_true List.mem_cons_self
          have HDR : Hid (∀ y, Below x.heap.size x y → Calls Try.prog 21 #[.pointer (some ⟨b1, 0, none⟩), .int .i64 d.1] y fun e w' => e = .returned (.int .i64 0) ∧ Tm w' b1 m1 g1 (nw : Int) (W.drop (k2 + 1)) ∧ Below w3.heap.size w3 w' ∧ OwnI w' u.heap.size (.slice ae ed ce) ((W.take ed).map (·.1)) ∧ OwnI w' x6.heap.size (.slice af fd cf) ((W.drop ed).map (·.1))) := fun y hy => by
            have := drop_any b1 m1 g1 (nw : Int) (d :: W.drop (k2 + 1)) d.1 y (HT.out.below hy) hdin.1
            rw [hhas, if_pos rfl, hdh] at this
            refine this.mono ?_
            rintro e w' ⟨he, hT', hf'⟩
            have hlt1 := HLT6.out.1
            have hfy : Fr [] x y := Fr.of_below hy _
            have hby := HBX.out.trans (hy.mono HBX.out.size)
            refine ⟨he, hT', hby.trans (hf'.below HNF.out hby.size), (HE.out.fr hfy (by simp)).fr hf' hlt1, (HF.out.fr hfy (by simp)).fr hf' (fun z hz => by have := hlt1 z hz; have := HSZ6.out; omega)⟩
          have HNX := hid HNX
          have hdl := HDLT.out k2 d hd
          have HKE : Hid (k2 < ed → ((W.take ed).map (·.1))[k2]? = some d.1) := fun h => by rw [List.getElem?_map, List.getElem?_take_of_lt h, hd]; rfl
          have HKF : Hid (¬ k2 < ed → ((W.drop ed).map (·.1))[k2 - ed]? = some d.1) := fun h => by rw [List.getElem?_map, List.getElem?_drop, show ed + (k2 - ed) = k2 by omega, hd]; rfl
          have HD2 := hid hd
          clear hd hdr hdm hdin hdh hhas HT
          unfold nextS at HNX
          go_wp2_with fail
          refine HNX.out.mono ?_
          rintro _ x8 ⟨rfl, hb8⟩
          have HDR8 := hid (HDR.out x8 hb8)
          clear hb8 HNX HDR HE HF HBX
          go_wp2_with fail
          refine HDR8.out.mono ?_
          rintro _ x9 ⟨rfl, hT9, hB9, hE9, hF9⟩
          obtain ⟨gw, ow, d', eg, _, c0, c1, _, HD'⟩ := (HSW5.out x9 hB9).at k2 hlt2
          obtain rfl : d' = d := by have := HD'.out; rw [HD2.out] at this; exact (Option.some.inj this).symm
          subst eg
          have hse := hE9.sees (fun z hz => by
            obtain ⟨y, hy, rfl⟩ := List.mem_map.1 hz
            exact (HWIN.out y (List.mem_of_mem_take hy)).1)
          have hsf := hF9.sees (fun z hz => by
            obtain ⟨y, hy, rfl⟩ := List.mem_map.1 hz
            exact (HWIN.out y (List.mem_of_mem_drop hy)).1)
          have HT9 := hid hT9
          have HB9 := hid hB9
          have HE9 := hid hE9
          have HF9 := hid hF9
          have hqq : (d'.1 != d'.1) = false := by simp
          have hqq2 : (d'.2 != d'.2) = false := by simp
          by_cases hke : k2 < ed
          · obtain ⟨ge, oe, pe, rfl, _, ce0, _, HP⟩ := hse.at k2 hke
            obtain rfl : pe = d'.1 := by have := HP.out; rw [HKE.out hke] at this; exact (Option.some.inj this).symm
            have hle : d'.2 ≤ now := hdl.1 hke
            clear hT9 hB9 hE9 hF9 hse hsf HP hdl HDR8 HD' HD2 HKE HKF
            generalize d'.1 = z0 at *
            generalize d'.2 = z1 at *
            go_wp2_with fail
            go_roundw
            case rel => exact ⟨k2 + 1, _, rfl, by go_num, by omega, HT9, HE9, HF9, HB9⟩
            case measure => simp [intOf]; omega
          · have hfd : k2 - ed < fd := by omega
            obtain ⟨gf, of, pf, rfl, _, cf0, _, HP⟩ := hsf.at (k2 - ed) hfd
            obtain rfl : pf = d'.1 := by have := HP.out; rw [HKF.out hke] at this; exact (Option.some.inj this).symm
            have hle : now < d'.2 := by have := mt hdl.2 hke; omega
            have ej : (k2 : Int) - (ed : Int) = ((k2 - ed : Nat) : Int) := by omega
            have hed2 : ed ≤ k2 := by omega
            clear hT9 hB9 hE9 hF9 hse hsf HP hdl HDR8 HD' HD2 HKE HKF
            generalize d'.1 = z0 at *
            generalize d'.2 = z1 at *
            generalize k2 - ed = j2 at *
            go_wp2_with fail
            go_roundw
            case rel => exact ⟨k2 + 1, _, rfl, by go_num, by omega, HT9, HE9, HF9, HB9⟩
            case measure => simp [intOf]; omega
        · have hdn : W.drop k2 = [] := List.drop_eq_nil_of_le (by have := HNW.out; omega)
          rw [hdn] at HNX HT
          unfold nextS at HNX
          have HNX := hid HNX
          go_wp2_with fail
          refine HNX.out.mono ?_
          rintro _ x8 ⟨rfl, hb8⟩
          have HL8 := hid (len_any b1 m1 g1 (nw : Int) [] x8 (HT.out.below hb8))
          have HB8 := hid (HBWX.out _ (HBX.out.trans (hb8.mono HBX.out.size)))
          clear hb8 HNX hdn
          go_wp2_with fail
          refine HL8.out.mono ?_
          rintro _ y4 ⟨rfl, e⟩
          obtain rfl := e.symm
          go_wp2_with fail
          go_ret
          exact ⟨rfl, HB8.out⟩
end Go.Proofs.Ythbjfbalgejndaa
