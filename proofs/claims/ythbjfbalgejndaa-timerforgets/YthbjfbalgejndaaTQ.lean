import Derived.Test.YthbjfbalgejndaaTP
namespace Go.Proofs.Ythbjfbalgejndaa.H

theorem split_at {L : List Dl} {k : Nat} {d : Dl} (h : L[k]? = some d) : L = L.take k ++ d :: L.drop (k + 1) := by
  obtain ⟨hk, e⟩ := List.getElem?_eq_some_iff.1 h
  rw [← e, ← List.drop_eq_getElem_cons hk, List.take_append_drop]

theorem ids_before {L : List Dl} (hi : Ids L) {k : Nat} {d : Dl} (h : L[k]? = some d) : ∀ x ∈ L.take k, x.1 ≠ d.1 := by
  intro x hx
  unfold Ids at hi
  rw [split_at h] at hi
  exact (List.pairwise_append.1 hi).2.2 x hx d List.mem_cons_self

theorem ids_behind {L : List Dl} (hi : Ids L) {k : Nat} {d : Dl} (h : L[k]? = some d) : ∀ x ∈ L.drop (k + 1), x.1 ≠ d.1 := by
  intro x hx
  unfold Ids at hi
  rw [split_at h] at hi
  exact ((List.pairwise_cons.1 (List.pairwise_append.1 hi).2.1).1 x hx).symm

theorem mem_take_snoc {L : List Dl} {k : Nat} {d : Dl} (h : L[k]? = some d) (x : Dl) : x ∈ L.take (k + 1) ↔ x ∈ L.take k ∨ x = d := by
  rw [List.take_add_one, h]
  simp

theorem mem_drop_cons {L : List Dl} {k : Nat} {d : Dl} (h : L[k]? = some d) (x : Dl) : x ∈ L.drop k ↔ x = d ∨ x ∈ L.drop (k + 1) := by
  obtain ⟨hk, e⟩ := List.getElem?_eq_some_iff.1 h
  rw [List.drop_eq_getElem_cons hk, e, List.mem_cons]

/-- Held: those of K, and those of G whose id K has not. -/
def Hold (K G S : List Dl) : Prop := ∀ x, x ∈ S ↔ x ∈ K ∨ (x ∈ G ∧ ∀ y ∈ K, y.1 ≠ x.1)

theorem Hold.set_gone {G S : List Dl} {k : Nat} {d : Dl} (h : Hold [] (G.take k) S) (hi : Ids G) (hd : G[k]? = some d) : Hold [] (G.take (k + 1)) (setS S d) := by
  have hb := ids_before hi hd
  intro x
  rw [mem_setS, h x, mem_take_snoc hd]
  constructor
  · rintro (rfl | ⟨h1 | ⟨h1, _⟩, _⟩)
    · exact .inr ⟨.inr rfl, fun y hy => by cases hy⟩
    · cases h1
    · exact .inr ⟨.inl h1, fun y hy => by cases hy⟩
  · rintro (h1 | ⟨h1 | rfl, _⟩)
    · cases h1
    · exact .inr ⟨.inr ⟨h1, fun y hy => by cases hy⟩, hb x h1⟩
    · exact .inl rfl

theorem Hold.set_kept {K G S : List Dl} {k : Nat} {d : Dl} (h : Hold (K.take k) G S) (hi : Ids K) (hd : K[k]? = some d) : Hold (K.take (k + 1)) G (setS S d) := by
  have hb := ids_before hi hd
  intro x
  rw [mem_setS, h x, mem_take_snoc hd]
  constructor
  · rintro (rfl | ⟨h1 | ⟨h1, h2⟩, h3⟩)
    · exact .inl (.inr rfl)
    · exact .inl (.inl h1)
    · refine .inr ⟨h1, fun y hy => ?_⟩
      rcases (mem_take_snoc hd y).1 hy with hy | rfl
      · exact h2 y hy
      · exact fun e => h3 e.symm
  · rintro ((h1 | rfl) | ⟨h1, h2⟩)
    · exact .inr ⟨.inl h1, hb x h1⟩
    · exact .inl rfl
    · exact .inr ⟨.inr ⟨h1, fun y hy => h2 y ((mem_take_snoc hd y).2 (.inl hy))⟩, fun e => h2 d ((mem_take_snoc hd d).2 (.inr rfl)) e.symm⟩

theorem Hold.stay {K G S : List Dl} {k : Nat} {d : Dl} (h : Hold K (G.drop k) S) (hd : G[k]? = some d) (hk : ∃ y ∈ K, y.1 = d.1) : Hold K (G.drop (k + 1)) S := by
  intro x
  rw [h x, mem_drop_cons hd]
  constructor
  · rintro (h1 | ⟨rfl | h1, h2⟩)
    · exact .inl h1
    · obtain ⟨y, hy, e⟩ := hk
      exact absurd e (h2 y hy)
    · exact .inr ⟨h1, h2⟩
  · rintro (h1 | ⟨h1, h2⟩)
    · exact .inl h1
    · exact .inr ⟨.inr h1, h2⟩

theorem Hold.gone {K G S : List Dl} {k : Nat} {d : Dl} (h : Hold K (G.drop k) S) (hi : Ids G) (hd : G[k]? = some d) (hk : ∀ y ∈ K, y.1 ≠ d.1) : d ∈ S ∧ Hold K (G.drop (k + 1)) (drp d.1 S) := by
  have hb := ids_behind hi hd
  refine ⟨(h d).2 (.inr ⟨(mem_drop_cons hd d).2 (.inl rfl), hk⟩), fun x => ?_⟩
  rw [mem_drp, h x, mem_drop_cons hd]
  constructor
  · rintro ⟨h1 | ⟨rfl | h1, h2⟩, h3⟩
    · exact .inl h1
    · exact absurd rfl h3
    · exact .inr ⟨h1, h2⟩
  · rintro (h1 | ⟨h1, h2⟩)
    · exact ⟨.inl h1, hk x h1⟩
    · exact ⟨.inr ⟨.inr h1, h2⟩, hb x h1⟩

theorem Hold.len {K G S : List Dl} (h : Hold K G S) (hs : S.Pairwise Lt) : S.length ≤ K.length + G.length := by
  have := nodup_len S (K ++ G) (sorted_nodup hs) (fun x hx => by
    rcases (h x).1 hx with h1 | ⟨h1, _⟩
    · exact List.mem_append_left _ h1
    · exact List.mem_append_right _ h1)
  rwa [List.length_append] at this

theorem Hold.mem {K S : List Dl} (h : Hold K [] S) (x : Dl) : x ∈ S ↔ x ∈ K := by
  rw [h x]
  constructor
  · rintro (h1 | ⟨h1, _⟩)
    · exact h1
    · cases h1
  · exact .inl

theorem Hold.same {K S U : List Dl} (h1 : Hold K [] S) (h2 : Hold K [] U) (s1 : S.Pairwise Lt) (s2 : U.Pairwise Lt) : S = U :=
  sorted_ext s1 s2 fun x => by rw [h1.mem, h2.mem]

theorem Hold.count {K S : List Dl} (h : Hold K [] S) (hi : Ids K) (hs : S.Pairwise Lt) : S.length = K.length := by
  have h1 := h.len hs
  have h2 := nodup_len K S (hi.imp fun h e => h (by rw [e])) (fun x hx => (h.mem x).2 hx)
  simp at h1
  omega
end Go.Proofs.Ythbjfbalgejndaa.H
namespace Go.Proofs.Ythbjfbalgejndaa
open Go.ChangeShapes Go.WideShapes Go.ChangeAt Go.RowKit Go.Maps H
set_option maxHeartbeats 20000000
set_option maxRecDepth 100000

theorem set_no {S : List Dl} {lim i : Int} (h : ∀ x ∈ S, x.1 ≠ i) (hl : ¬ (S.length : Int) < lim) (a : Int) : setE S lim i = 4 ∧ setR S lim (i, a) = S := by
  have hh : ¬ (hasS S i = true ∨ (S.length : Int) < lim) := by rw [hasS_false h]; simpa using hl
  unfold setE setR
  exact ⟨if_neg hh, if_neg hh⟩

theorem forgets_walk (v0 v1 : Value) (L0 L1 : List Dl) (now : Int) (w : World) (hs0 : SeesP w v0 L0) (hs1 : SeesP w v1 L1) (hb0 : L0.length ≤ 8796093022208) (hb1 : L1.length ≤ 8796093022208) (hnow : In64 now) :
    Calls Try.prog 6 #[v0, v1, .int .i64 now] w fun e w' => e = .returned (.bool true) ∧ Below w.heap.size w w' := by
  have HNOW := hid hnow
  have HIN0 := hid hs0.in64
  have HIN1 := hid hs1.in64
  have HBG := hid (begun_any w)
  have HLK : Hid (∀ u, Below w.heap.size w u → Calls Try.prog 19 #[v0] u fun e w' => ∃ v', e = .returned v' ∧ OwnP w' u.heap.size v' (lastL L0) ∧ Below u.heap.size u w') := fun u hu => last_any _ L0 u (hs0.below hu) hb0
  have HLG : Hid (∀ u, Below w.heap.size w u → Calls Try.prog 19 #[v1] u fun e w' => ∃ v', e = .returned v' ∧ OwnP w' u.heap.size v' (lastL L1) ∧ Below u.heap.size u w') := fun u hu => last_any _ L1 u (hs1.below hu) hb1
  obtain ⟨ao, n, cap, rfl, HN, hn1, hn2⟩ := hs0.shape
  obtain ⟨bo, m, cbp, rfl, HM, hm1, hm2⟩ := hs1.shape
  have HB0 := hid hb0
  have HB1' := hid hb1
  clear hs0 hs1 hb0 hb1 hnow hn1 hn2 hm1 hm2
  go_enter Try.func6, Try.ntmps6
  go_wp2_with fail
  refine HBG.out.mono ?_
  rintro _ w1 ⟨rfl, hb1⟩
  have HL1 := hid (HLK.out w1 hb1)
  have HB1 := hid hb1
  clear hb1 HBG HLK
  go_wp2_with fail
  refine HL1.out.mono ?_
  rintro _ w2 ⟨vk, rfl, hok, hb2⟩
  have hink : ∀ x ∈ lastL L0, In64 x.1 ∧ In64 x.2 := fun x hx => HIN0.out x (lastL_mem L0 x hx)
  have hsk := hok.sees hink
  obtain ⟨ak, nk, ck, rfl, HNK, hk1, hk2⟩ := hsk.shape
  have hB2 : Below w.heap.size w w2 := HB1.out.trans (hb2.mono HB1.out.size)
  have HL2 := hid (HLG.out w2 hB2)
  have HB2 := hid hB2
  have HSK := hid hsk
  have hnk : nk ≤ 8796093022208 := by have := lastL_len L0; have := HB0.out; have := HNK.out; omega
  clear hok hsk hb2 hB2 HL1 hink HLG
  unfold maxLen at hk2
  go_wp2_with fail
  refine HL2.out.mono ?_
  rintro _ w3 ⟨vg, rfl, hog, hb3⟩
  have hing : ∀ x ∈ lastL L1, In64 x.1 ∧ In64 x.2 := fun x hx => HIN1.out x (lastL_mem L1 x hx)
  have hsg := hog.sees hing
  obtain ⟨ag, ng, cg, rfl, HNG, hg1, hg2⟩ := hsg.shape
  have hng : ng ≤ 8796093022208 := by have := lastL_len L1; have := HB1'.out; have := HNG.out; omega
  have HSK3 : Hid (SeesP w3 (.slice ak nk ck) (lastL L0)) := HSK.out.below hb3
  have HSG3 := hid hsg
  have HB3 := hid (HB2.out.trans (hb3.mono HB2.out.size))
  have HIK := hid (lastL_ids L0)
  have HIG := hid (lastL_ids L1)
  unfold maxLen at hg2
  clear hog hsg hb3 HL2 hing HSK HB1 HB2 HB0 HB1' HIN0 HIN1 HN HM
  generalize lastL L0 = K at *
  generalize lastL L1 = G at *
  obtain ⟨rm, hrm⟩ : ∃ rm, rm = nk + ng + 1 := ⟨_, rfl⟩
  have HRMI : Hid ((nk : Int) + (ng : Int) + 1 = (rm : Int)) := by unfold Hid; omega
  have HRM := hid hrm
  go_upto_region 7 with fail
  rw [HRMI.out]
  by_cases hbig : 2000 < rm
  · go_wp2_with fail
    go_ret
    exact ⟨rfl, HB3.out⟩
  have hr6 : rm ≤ 2000 := by omega
  have hr1 : 1 ≤ rm := by omega
  have HNE := hid (new_good (rm : Int) w3 (by omega) (by omega))
  have HBWX : Hid (∀ x, Below w3.heap.size w3 x → Below w.heap.size w x) := fun x hx => HB3.out.trans (hx.mono HB3.out.size)
  clear hbig HB3 hrm
  go_wp2_with fail
  refine HNE.out.mono ?_
  rintro _ w4 ⟨b1, m1, rfl, hT1, hb1, hm1, _, hb4⟩
  have HNE2 := hid (new_good (rm : Int) w4 (by omega) (by omega))
  have HT1 := hid hT1
  have HF1 : Hid (∀ x ∈ fp b1 m1 none, w3.heap.size ≤ x) := fun x hx => by simp [fp] at hx; rcases hx with rfl | rfl <;> assumption
  have HB34 := hid hb4
  clear hT1 hb1 hm1 hb4 HNE
  go_wp2_with fail
  refine HNE2.out.mono ?_
  rintro _ w5 ⟨b2, m2, rfl, hT2, hb2, hm2, _, hb5⟩
  have HTW : Hid (Two w3.heap.size w5 b1 m1 none (rm : Int) [] b2 m2 none (rm : Int) []) := Two.made HT1.out HF1.out hT2 hb2 hm2 HB34.out.size hb5
  have HB35 : Hid (Below w3.heap.size w3 w5) := HB34.out.trans (hb5.mono HB34.out.size)
  clear hT2 hb2 hm2 hb5 HNE2 HT1 HF1 HB34
  go_wp2_with fail
  go_loopw [15] (fun i wv => ∃ (k : Nat) (g1 : Option Nat) (S : List Dl) (wr : World), wr = wv ∧ i = .int .i64 k ∧ k ≤ ng ∧ Hid (Two w3.heap.size wr b1 m1 g1 (rm : Int) S b2 m2 none (rm : Int) []) ∧ Hid (Hold [] (G.take k) S) ∧ Hid (Below w3.heap.size w3 wr)) (fun i _ => ng - (intOf i).toNat)
  case atStart => exact ⟨0, none, [], _, rfl, rfl, by omega, HTW, by unfold Hid Hold; simp, HB35⟩
  case round =>
    clear HTW HB35
    obtain ⟨k, g1, S, u, rfl, rfl, hk, HTW, HHO, HBU⟩ := hrel
    by_cases hlt : k < ng
    · obtain ⟨g0, o0, d, rfl, hg0, e0, e1, hd, HD⟩ := (HSG3.out.below HBU.out).at k hlt
      have hroom : (S.length : Int) < (rm : Int) := by
        have h1 := HHO.out.len HTW.out.one.sorted
        rw [List.length_take] at h1
        have := HRM.out
        simp at h1
        omega
      have HS1 := (HTW.out.below (w' := u.drew) (below_drew (Below.refl _ _))).set1 HBU.out.size d.1 d.2 hd.1 hd.2
      rw [(set_room hroom d.1 d.2).1, (set_room hroom d.1 d.2).2] at HS1
      have HS1 := hid HS1
      have HHO2 : Hid (Hold [] (G.take (k + 1)) (setS S (d.1, d.2))) := HHO.out.set_gone HIG.out HD.out
      clear hroom HTW HHO hd HD
      generalize hd1 : d.1 = z0 at *
      generalize hd2 : d.2 = z1 at *
      clear hd1 hd2
      go_upto_region 16 with fail
      go_cut [12] from 60 to 79 (fun e wx => ∃ g x, x = wx ∧ e = .int .i64 0 ∧ Hid (Two w3.heap.size x b1 m1 g (rm : Int) (setS S (z0, z1)) b2 m2 none (rm : Int) []) ∧ Hid (Below w3.heap.size w3 x))
      case first =>
        go_region_with (first | (go_at_call 13; refine HS1.out.mono ?_; rintro _ x1 ⟨gg, rfl, ht1, hbx1⟩) | fail)
        all_goals (
          go_wp2_with fail
          go_meet
          case rel => exact ⟨gg, _, rfl, rfl, ht1, (below_drew HBU.out).trans hbx1⟩)
      case rest =>
      obtain ⟨gg, x1, hx1, rfl, HT2, HBX1⟩ := hcut
      subst hx1
      clear e0 e1 HS1
      go_wp2_with fail
      go_roundw
      case rel => exact ⟨k + 1, gg, _, _, rfl, by go_num, by omega, HT2, HHO2, HBX1⟩
      case measure => simp [intOf]; omega
    · have HHG : Hid (Hold (K.take 0) G S) := by
        have h1 := HHO.out
        rw [List.take_of_length_le (by have := HNG.out; omega)] at h1
        exact h1
      have HHU : Hid (Hold (K.take 0) [] []) := by unfold Hid Hold; simp
      clear HHO
      go_wp2_with fail
      go_loopw [16] (fun i wv => ∃ (k : Nat) (g1 g2 : Option Nat) (S U : List Dl) (wr : World), wr = wv ∧ i = .int .i64 k ∧ k ≤ nk ∧ Hid (Two w3.heap.size wr b1 m1 g1 (rm : Int) S b2 m2 g2 (rm : Int) U) ∧ Hid (Hold (K.take k) G S) ∧ Hid (Hold (K.take k) [] U) ∧ Hid (Below w3.heap.size w3 wr)) (fun i _ => nk - (intOf i).toNat)
      case atStart => exact ⟨0, g1, none, S, [], _, rfl, rfl, by omega, HTW, HHG, HHU, HBU⟩
      case round =>
        clear HTW HHG HHU HBU
        obtain ⟨k2, g1, g2, S, U, x, rfl, rfl, hk2', HTW, HHG, HHU, HBU⟩ := hrel
        by_cases hlt2 : k2 < nk
        · obtain ⟨g0, o0, d, rfl, hg0, e0, e1, hd, HD⟩ := (HSK3.out.below HBU.out).at k2 hlt2
          have r1 : (S.length : Int) < (rm : Int) := by
            have h1 := HHG.out.len HTW.out.one.sorted
            rw [List.length_take] at h1
            have := HRM.out
            have := HNG.out
            omega
          have r2 : (U.length : Int) < (rm : Int) := by
            have h1 := HHU.out.len HTW.out.two.sorted
            rw [List.length_take] at h1
            have := HRM.out
            simp at h1
            omega
          have HBO := hid (both_any HTW.out HBU.out.size d.1 d.2 hd.1 hd.2 r1 r2)
          have HG2 : Hid (Hold (K.take (k2 + 1)) G (setS S (d.1, d.2))) := HHG.out.set_kept HIK.out HD.out
          have HU2 : Hid (Hold (K.take (k2 + 1)) [] (setS U (d.1, d.2))) := HHU.out.set_kept HIK.out HD.out
          clear r1 r2 HTW HHG HHU hd HD
          generalize hd1 : d.1 = z0 at *
          generalize hd2 : d.2 = z1 at *
          clear hd1 hd2
          go_wp2_with fail
          refine HBO.out.mono ?_
          rintro _ x1 ⟨g1', g2', rfl, ht1, hbx1⟩
          have HT2 := hid ht1
          have HBX1 := hid (HBU.out.trans hbx1)
          clear ht1 hbx1 HBO e0 e1
          go_wp2_with fail
          go_roundw
          case rel => exact ⟨k2 + 1, g1', g2', _, _, _, rfl, by go_num, by omega, HT2, HG2, HU2, HBX1⟩
          case measure => simp [intOf]; omega
        · rw [List.take_of_length_le (by have := HNK.out; omega)] at HHG HHU
          have HHG0 : Hid (Hold K (G.drop 0) S) := HHG
          clear HHG
          go_wp2_with fail
          go_loopw [17] (fun i wv => ∃ (k : Nat) (S : List Dl) (wr : World), wr = wv ∧ i = .int .i64 k ∧ k ≤ ng ∧ Hid (Two w3.heap.size wr b1 m1 g1 (rm : Int) S b2 m2 g2 (rm : Int) U) ∧ Hid (Hold K (G.drop k) S) ∧ Hid (Below w3.heap.size w3 wr)) (fun i _ => ng - (intOf i).toNat)
          case atStart => exact ⟨0, S, _, rfl, rfl, by omega, HTW, HHG0, HBU⟩
          case round =>
            clear HTW HHG0 HBU
            obtain ⟨k3, S, u, rfl, rfl, hk3, HTW, HHG, HBU⟩ := hrel
            by_cases hlt3 : k3 < ng
            · obtain ⟨g0, o0, d, rfl, hg0, e0, e1, hd, HD⟩ := (HSG3.out.below HBU.out).at k3 hlt3
              have HCG : Hid (∀ y, Below w3.heap.size w3 y → y.cell? ⟨g0, o0 + k3 * 2, none⟩ = some (.int .i64 d.1)) := fun y hy => by
                obtain ⟨g0', o0', d', eg, _, c0, _, _, HD'⟩ := (HSG3.out.below hy).at k3 hlt3
                simp at eg
                obtain ⟨rfl, rfl⟩ := eg
                obtain rfl : d' = d := by have := HD'.out; rw [HD.out] at this; exact (Option.some.inj this).symm
                exact c0
              have HSTAY : Hid ((∃ y ∈ K, y.1 = d.1) → Hold K (G.drop (k3 + 1)) S) := fun h => HHG.out.stay HD.out h
              have HGONE : Hid ((∀ y ∈ K, y.1 ≠ d.1) → d ∈ S ∧ Hold K (G.drop (k3 + 1)) (drp d.1 S)) := fun h => HHG.out.gone HIG.out HD.out h
              have HIN := hid hd.1
              clear e0 e1 hd HD HHG
              go_wp2_with fail
              go_loopw [18, 19] (fun st j wv => ∃ (q : Nat) (s : Bool) (wr : World), wr = wv ∧ st = .bool s ∧ j = .int .i64 q ∧ q ≤ nk ∧ Hid (s = true ↔ ∃ y ∈ K.take q, y.1 = d.1) ∧ Hid (Below u.heap.size u wr)) (fun _ j _ => nk - (intOf j).toNat)
              case atStart => exact ⟨0, false, _, rfl, rfl, rfl, by omega, by unfold Hid; simp, Below.refl _ _⟩
              case round =>
                obtain ⟨q, s, x, rfl, rfl, rfl, hq, HQ, HBX⟩ := hrel
                have HBX3 : Hid (Below w3.heap.size w3 x) := HBU.out.trans (HBX.out.mono HBU.out.size)
                by_cases hqm : q < nk
                · obtain ⟨gk, ok, dk, rfl, _, f0, _, _, HDK⟩ := (HSK3.out.below HBX3.out).at q hqm
                  have c0 := HCG.out x HBX3.out
                  cases s with
                  | true =>
                    have HQ2 : Hid (true = true ↔ ∃ y ∈ K.take (q + 1), y.1 = d.1) := by
                      obtain ⟨y, hy, e⟩ := HQ.out.1 rfl
                      exact ⟨fun _ => ⟨y, (mem_take_snoc HDK.out y).2 (.inl hy), e⟩, fun _ => rfl⟩
                    clear HDK HQ
                    go_wp2
                    go_region
                    go_wp2
                    go_roundw
                    case rel => exact ⟨q + 1, true, _, rfl, rfl, by go_num, by omega, (by have := HQ2.out; unfold Hid; simpa using this), below_drew HBX.out⟩
                    case measure => simp [intOf]; omega
                  | false =>
                    obtain ⟨t, ht⟩ : ∃ t, (dk.1 == d.1) = t := ⟨_, rfl⟩
                    have HQ2 : Hid (t = true ↔ ∃ y ∈ K.take (q + 1), y.1 = d.1) := by
                      unfold Hid
                      rw [← ht]
                      constructor
                      · intro h
                        exact ⟨dk, (mem_take_snoc HDK.out dk).2 (.inr rfl), by simpa using h⟩
                      · rintro ⟨y, hy, e⟩
                        rcases (mem_take_snoc HDK.out y).1 hy with hy | rfl
                        · exact absurd (HQ.out.2 ⟨y, hy, e⟩) (by simp)
                        · simpa using e
                    clear HDK HQ
                    generalize dk.1 = y0 at *
                    generalize hdd : d.1 = y1 at *
                    clear hdd
                    cases t with
                    | true =>
                      go_wp2
                      go_region
                      go_wp2
                      go_roundw
                      case rel => exact ⟨q + 1, true, _, rfl, rfl, by go_num, by omega, (by have := HQ2.out; unfold Hid; simpa using this), below_drew HBX.out⟩
                      case measure => simp [intOf]; omega
                    | false =>
                      go_wp2
                      go_region
                      go_wp2
                      go_roundw
                      case rel => exact ⟨q + 1, false, _, rfl, rfl, by go_num, by omega, HQ2, below_drew HBX.out⟩
                      case measure => simp [intOf]; omega
                · rw [List.take_of_length_le (by have := HNK.out; omega)] at HQ
                  have HTX := hid (HTW.out.below HBX.out)
                  cases s with
                  | true =>
                    have HS2 := hid (HSTAY.out (HQ.out.1 rfl))
                    clear HQ
                    go_wp2_with fail
                    go_roundw
                    case rel => exact ⟨k3 + 1, S, _, rfl, by go_num, by omega, HTX, HS2, HBX3⟩
                    case measure => simp [intOf]; omega
                  | false =>
                    obtain ⟨hmem, hg⟩ := HGONE.out (fun y hy e => absurd (HQ.out.2 ⟨y, hy, e⟩) (by simp))
                    have HG2 := hid hg
                    have HDR := HTX.out.drop1 HBX3.out.size d.1 HIN.out
                    rw [hasS_true hmem, if_pos rfl] at HDR
                    have HDR := hid HDR
                    have HFREE : Hid (∀ y, Two w3.heap.size y b1 m1 g1 (rm : Int) (drp d.1 S) b2 m2 g2 (rm : Int) U → Calls Try.prog 16 #[.pointer (some ⟨b1, 0, none⟩), .int .i64 d.1] y fun e w' => e = .returned (.tuple #[.int .i64 0, .int .i64 3]) ∧ w' = y) := fun y hy => by
                      have := when_any b1 m1 g1 (rm : Int) (drp d.1 S) d.1 y hy.one HIN.out
                      rw [whenS_free (fun z hz => (mem_drp.1 hz).2)] at this
                      exact this
                    have c0 := HCG.out x HBX3.out
                    clear hmem hg HQ HSTAY HGONE HIN
                    generalize hdd : d.1 = z0 at *
                    clear hdd
                    go_wp2_with fail
                    refine HDR.out.mono ?_
                    rintro _ y1 ⟨rfl, hT1, hb1, _⟩
                    have HBY : Hid (Below w3.heap.size w3 y1) := HBX3.out.trans hb1
                    have c1 := HCG.out y1 HBY.out
                    have HWH := hid (HFREE.out y1 hT1)
                    have HT1 := hid hT1
                    clear hT1 hb1 HDR HFREE c0 HCG
                    go_wp2_with fail
                    refine HWH.out.mono ?_
                    rintro _ y2 ⟨rfl, e⟩
                    obtain rfl := e.symm
                    clear c1 HWH
                    go_wp2_with fail
                    go_roundw
                    case rel => exact ⟨k3 + 1, _, _, rfl, by go_num, by omega, HT1, HG2, HBY⟩
                    case measure => simp [intOf]; omega
            · rw [List.drop_eq_nil_of_le (by have := HNG.out; omega)] at HHG
              have hSU : S = U := HHG.out.same HHU.out HTW.out.one.sorted HTW.out.two.sorted
              subst hSU
              have HAL := hid (alike_any HTW.out HBU.out _ K HSK3.out (fun x hx => (HHU.out.mem x).2 hx) (HHU.out.count HIK.out HTW.out.one.sorted) now HNOW.out)
              clear HTW HHG HHU HSG3 HIG HIK
              go_wp2_with fail
              refine HAL.out.mono ?_
              rintro _ x1 ⟨rfl, ht, hb⟩
              have HT0 : Hid (0 ≤ rm → Two w3.heap.size x1 b1 m1 g1 (rm : Int) [] b2 m2 g2 (rm : Int) [] ∧ ([] : List Dl).length = 0 ∧ ∀ x ∈ ([] : List Dl), x.1 < ((0 : Nat) : Int)) := fun _ => ⟨ht, rfl, by simp⟩
              have HB0 := hid hb
              clear ht hb HAL HBU
              go_wp2_with fail
              go_loopw [20] (fun i wv => ∃ (k : Nat) (g1 g2 : Option Nat) (S : List Dl) (wr : World), wr = wv ∧ i = .int .i64 k ∧ k ≤ rm + 1 ∧ Hid (k ≤ rm → Two w3.heap.size wr b1 m1 g1 (rm : Int) S b2 m2 g2 (rm : Int) S ∧ S.length = k ∧ ∀ x ∈ S, x.1 < (k : Int)) ∧ Hid (Below w3.heap.size w3 wr)) (fun i _ => rm + 1 - (intOf i).toNat)
              case atStart => exact ⟨0, g1, g2, [], _, rfl, rfl, by omega, HT0, HB0⟩
              case round =>
                clear HT0 HB0
                obtain ⟨k4, g1, g2, S, x, rfl, rfl, hk4, HALL, HBX⟩ := hrel
                by_cases hle : k4 ≤ rm
                · obtain ⟨ht, hlen, hmem⟩ := HALL.out hle
                  have hi : In64 (k4 : Int) := ⟨by omega, by omega⟩
                  have ho : In64 1 := ⟨by decide, by decide⟩
                  have hne : ∀ y ∈ S, y.1 ≠ (k4 : Int) := fun y hy e => by have := hmem y hy; omega
                  by_cases hkr : k4 < rm
                  · obtain ⟨s1, s2⟩ := set_room (S := S) (lim := (rm : Int)) (by omega) (k4 : Int) 1
                    have HS1 := ht.set1 HBX.out.size (k4 : Int) 1 hi ho
                    rw [s1, s2] at HS1
                    have HS1 := hid HS1
                    have HS2 : Hid (∀ y g, Two w3.heap.size y b1 m1 g (rm : Int) (setS S ((k4 : Int), 1)) b2 m2 g2 (rm : Int) S → w3.heap.size ≤ y.heap.size → Calls Try.prog 13 #[.pointer (some ⟨b2, 0, none⟩), .int .i64 (k4 : Int), .int .i64 1] y fun e w' => ∃ g', e = .returned (.int .i64 0) ∧ Two w3.heap.size w' b1 m1 g (rm : Int) (setS S ((k4 : Int), 1)) b2 m2 g' (rm : Int) (setS S ((k4 : Int), 1)) ∧ Below w3.heap.size y w') := fun y g hy hsz => by
                      have := hy.swap.set1 hsz (k4 : Int) 1 hi ho
                      rw [s1, s2] at this
                      refine this.mono ?_
                      rintro e w' ⟨g', he, ht', hb⟩
                      exact ⟨g', he, ht'.swap, hb⟩
                    have HLEN : Hid ((setS S ((k4 : Int), 1)).length = k4 + 1 ∧ ∀ y ∈ setS S ((k4 : Int), 1), y.1 < ((k4 + 1 : Nat) : Int)) := by
                      refine ⟨?_, fun y hy => ?_⟩
                      · rw [(setS_len (IdsM.ids ht.one.ids ht.one.sorted) ((k4 : Int), 1)).2 (hasS_false hne), hlen]
                      · rcases mem_setS.1 hy with rfl | ⟨hy, _⟩
                        · show (k4 : Int) < _; omega
                        · have := hmem y hy; omega
                    have hdk : decide ((k4 : Int) < (rm : Int)) = true := by simp; omega
                    clear ht hlen hmem hi ho hne s1 s2 HALL
                    go_wp2_with fail
                    refine HS1.out.mono ?_
                    rintro _ x1 ⟨gg, rfl, ht1, hbx1⟩
                    have HB1 := hid (HBX.out.trans hbx1)
                    have HS2' := hid (HS2.out x1 gg ht1 HB1.out.size)
                    clear ht1 hbx1 HS1 HS2
                    go_wp2_with fail
                    refine HS2'.out.mono ?_
                    rintro _ x2 ⟨g', rfl, ht2, hbx2⟩
                    have HB2 := hid (HB1.out.trans hbx2)
                    have HT2 : Hid (k4 + 1 ≤ rm → Two w3.heap.size x2 b1 m1 gg (rm : Int) (setS S ((k4 : Int), 1)) b2 m2 g' (rm : Int) (setS S ((k4 : Int), 1)) ∧ (setS S ((k4 : Int), 1)).length = k4 + 1 ∧ ∀ y ∈ setS S ((k4 : Int), 1), y.1 < ((k4 + 1 : Nat) : Int)) := fun _ => ⟨ht2, HLEN.out⟩
                    clear ht2 hbx2 HS2' HLEN
                    go_wp2_with fail
                    go_roundw
                    case rel => exact ⟨k4 + 1, gg, g', _, _, rfl, by go_num, by omega, HT2, HB2⟩
                    case measure => simp [intOf]; omega
                  · obtain rfl : k4 = rm := by omega
                    obtain ⟨s1, s2⟩ := set_no (S := S) (lim := (k4 : Int)) hne (by omega) 1
                    have HS1 := ht.set1 HBX.out.size (k4 : Int) 1 hi ho
                    rw [s1, s2] at HS1
                    have HS1 := hid HS1
                    have HS2 : Hid (∀ y g, Two w3.heap.size y b1 m1 g (k4 : Int) S b2 m2 g2 (k4 : Int) S → w3.heap.size ≤ y.heap.size → Calls Try.prog 13 #[.pointer (some ⟨b2, 0, none⟩), .int .i64 (k4 : Int), .int .i64 1] y fun e w' => e = .returned (.int .i64 4) ∧ Below w3.heap.size y w') := fun y g hy hsz => by
                      have := hy.swap.set1 hsz (k4 : Int) 1 hi ho
                      rw [s1, s2] at this
                      refine this.mono ?_
                      rintro e w' ⟨g', he, ht', hb⟩
                      exact ⟨he, hb⟩
                    have hdk : decide ((k4 : Int) < (k4 : Int)) = false := by simp
                    clear ht hlen hmem hi ho hne s1 s2 HALL
                    go_wp2_with fail
                    refine HS1.out.mono ?_
                    rintro _ x1 ⟨gg, rfl, ht1, hbx1⟩
                    have HB1 := hid (HBX.out.trans hbx1)
                    have HS2' := hid (HS2.out x1 gg ht1 HB1.out.size)
                    clear ht1 hbx1 HS1 HS2
                    go_wp2_with fail
                    refine HS2'.out.mono ?_
                    rintro _ x2 ⟨rfl, hbx2⟩
                    have HB2 := hid (HB1.out.trans hbx2)
                    have HT2 : Hid (k4 + 1 ≤ k4 → Two w3.heap.size x2 b1 m1 gg (k4 : Int) S b2 m2 g2 (k4 : Int) S ∧ S.length = k4 + 1 ∧ ∀ y ∈ S, y.1 < ((k4 + 1 : Nat) : Int)) := fun h => absurd h (by omega)
                    clear hbx2 HS2'
                    go_wp2_with fail
                    go_roundw
                    case rel => exact ⟨k4 + 1, gg, g2, S, _, rfl, by go_num, by omega, HT2, HB2⟩
                    case measure => simp [intOf]
                · have hgt : rm < k4 := by omega
                  clear HALL
                  go_wp2_with fail
                  go_ret
                  exact ⟨rfl, HBWX.out _ HBX.out⟩
end Go.Proofs.Ythbjfbalgejndaa
