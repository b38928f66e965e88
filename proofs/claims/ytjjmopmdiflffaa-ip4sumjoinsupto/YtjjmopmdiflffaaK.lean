import Derived.Test.YtjjmopmdiflffaaJ
namespace Go.Proofs.Ytjjmopmdiflffaa
open Go.ChangeShapes Go.WideShapes Go.ChangeAt Go.RowKit
set_option maxHeartbeats 400000
set_option maxRecDepth 100000

set_option maxHeartbeats 2000000 in
theorem sumJoins_walk (v : Value) (Ls : List (List Nat)) (n0 : Nat) (w : World) (hv : SeesBB w v Ls) (hl : Ls.flatten.length ≤ 1048576) (hn0 : n0 < 65536) :
    Calls Try.prog 3 #[v, .int .u16 (n0 : Int)] w fun e w' => e = .returned (.bool true) ∧ Below w.heap.size w w' := by
  have HJN := hid (join_any v Ls w hv (by omega))
  have HSP : Hid (∀ u, Below w.heap.size w u → Calls Try.prog 10 #[v] u fun e w' => e = .returned (.int .u16 ((M.csum Ls.flatten : Nat) : Int)) ∧ Below u.heap.size u w') := fun u hu => sum_code v Ls u (hv.below hu) (by omega)
  have HS0 : Hid (∀ u, Calls Try.prog 10 #[.slice none 0 0] u fun e w' => e = .returned (.int .u16 65535) ∧ Below u.heap.size u w') := fun u => by
    have h := sum_code (.slice none 0 0) [] u (seesBB_nil u) (by simp)
    rw [show M.csum ([] : List (List Nat)).flatten = 65535 by decide] at h
    exact h
  have HBY : Hid (∀ x ∈ Ls.flatten, x < 256) := fun x hx => by
    obtain ⟨l, hl, hx⟩ := List.mem_flatten.1 hx
    exact hv.bytes l hl x hx
  have HL := hid hl
  obtain ⟨s, hs⟩ : ∃ s, s = M.csum Ls.flatten := ⟨_, rfl⟩
  have hs1 : s < 65536 := by rw [hs]; exact M.csum_lt _
  have HSE := hid hs
  rw [← hs] at HSP
  obtain ⟨hi, hhi⟩ : ∃ hi, hi = n0 / 256 := ⟨_, rfl⟩
  obtain ⟨lo, hlo⟩ : ∃ lo, lo = n0 % 256 := ⟨_, rfl⟩
  have ehi : (n0 : Int) / 256 = (hi : Int) := by omega
  have elo : (n0 : Int) % 256 = (lo : Int) := by omega
  have HHL : Hid (256 * hi + lo = n0) := by unfold Hid; omega
  have hhi1 : hi < 256 := by omega
  have hlo1 : lo < 256 := by omega
  obtain ⟨si, hsi⟩ : ∃ si, si = s / 256 := ⟨_, rfl⟩
  obtain ⟨so, hso⟩ : ∃ so, so = s % 256 := ⟨_, rfl⟩
  have esi : (s : Int) / 256 = (si : Int) := by omega
  have eso : (s : Int) % 256 = (so : Int) := by omega
  have HSL : Hid (256 * si + so = s) := by unfold Hid; omega
  have hsi1 : si < 256 := by omega
  have hso1 : so < 256 := by omega
  obtain ⟨ao, n, cap, rfl, HN, hn1, hn2⟩ := hv.shape
  clear hhi hlo hsi hso hs hv hl
  go_enter Try.func3, Try.ntmps3
  go_wp2_with fail
  refine HJN.out.mono ?_
  rintro _ w1 ⟨v1, rfl, hO1, hb1⟩
  have hsn1 := hO1.sees HBY.out
  obtain ⟨ac, nc, capc, rfl, HNC, hc1, hc2⟩ := hsn1.shape
  unfold maxLen at hc2
  have HO1 := hid hO1
  have HSN := hid hsn1
  have hncl : nc ≤ 1048576 := by have := HNC.out; have := HL.out; omega
  clear hsn1 hO1 HJN
  go_wp2_with fail
  refine (HSP.out _ hb1).mono ?_
  rintro _ w2 ⟨rfl, hb2⟩
  go_wp2_with fail
  refine (sum_one _ _ w2 (HSN.out.below hb2) (by have := HL.out; omega)).mono ?_
  rw [← HSE.out]
  rintro _ w3 ⟨rfl, hb3⟩
  go_wp2_with fail
  refine (HS0.out _).mono ?_
  rintro _ w4 ⟨rfl, hb4⟩
  go_wp2_with fail
  refine (sum_ex w4).mono ?_
  rintro _ w5 ⟨rfl, hb5⟩
  have hb13 := hb2.trans (hb3.mono hb2.size)
  have hb14 := hb13.trans (hb4.mono hb13.size)
  have hb15 := hb14.trans (hb5.mono hb14.size)
  have hbw5 := hb1.trans (hb15.mono hb1.size)
  have HO5 := hid (HO1.out.below hb15)
  clear hb2 hb3 hb4 hb5 hb13 hb14 hb15 HSN HO1 hb1 HSP HS0
  go_upto_if 33 with fail
  go_cut [5] from 10 (fun q wx => ∃ C, Hid (OwnB wx w.heap.size q C) ∧ Hid (C.length % 2 = 0 ∧ C.length ≤ 1048577 ∧ (∀ x ∈ C, x < 256) ∧ M.csum C = s ∧ s = 65535 - M.fold (M.tot false C)) ∧ Below w.heap.size w wx)
  case first =>
    by_cases hp : nc % 2 = 1
    · have hq : ((nc : Int) % 2 == 1) = true := by simp; omega
      have HR : Hid ((Ls.flatten ++ [0]).length % 2 = 0 ∧ (Ls.flatten ++ [0]).length ≤ 1048577 ∧ (∀ x ∈ Ls.flatten ++ [0], x < 256) ∧ M.csum (Ls.flatten ++ [0]) = s ∧ s = 65535 - M.fold (M.tot false (Ls.flatten ++ [0]))) := by
        have h1 := HNC.out
        have h2 := HL.out
        refine ⟨by rw [List.length_append]; simp only [List.length_cons, List.length_nil]; omega, by rw [List.length_append]; simp only [List.length_cons, List.length_nil]; omega, fun x hx => ?_, ?_, ?_⟩
        · rcases List.mem_append.1 hx with hx | hx
          · exact HBY.out x hx
          · simp at hx; omega
        · unfold M.csum; rw [M.tot_snoc0]; exact HSE.out.symm
        · rw [M.tot_snoc0]; exact HSE.out
      clear hp
      go_wp2_with (at_builtin; refine wpList_append_bytes rfl _ _ rfl w.heap.size _ _ rfl (HO5.out.alloc _) _ [0] rfl (sees_one rfl 0 (by decide) _) ?c1 ?c2 ?_)
      case c1 => have := HL.out; simp only [List.length_cons, List.length_nil]; omega
      case c2 => have := hbw5.size; simp; omega
      intro v' w6 ho hb6
      have HO6 := hid ho
      have hb7 := (hbw5.alloc hbw5.size _).trans hb6
      clear ho hb6
      go_wp2_with fail
      go_meet
      case rel => exact ⟨Ls.flatten ++ [0], HO6, HR, hb7⟩
    · have hq : ((nc : Int) % 2 == 1) = false := by simp; omega
      have HR : Hid (Ls.flatten.length % 2 = 0 ∧ Ls.flatten.length ≤ 1048577 ∧ (∀ x ∈ Ls.flatten, x < 256) ∧ M.csum Ls.flatten = s ∧ s = 65535 - M.fold (M.tot false Ls.flatten)) := by
        have h1 := HNC.out
        have h2 := HL.out
        exact ⟨by omega, by omega, HBY.out, HSE.out.symm, HSE.out⟩
      clear hp
      go_wp2_with fail
      go_meet
      case rel => exact ⟨Ls.flatten, HO5, HR, hbw5⟩
  case rest =>
    obtain ⟨C, HO, HC, hb⟩ := hcut
    clear HO5 HNC hc1 hc2 hncl hbw5 HSE HBY HL
    have hsn := HO.out.sees HC.out.2.2.1
    obtain ⟨ab, m, capm, rfl, HM, hm1, hm2⟩ := hsn.shape
    unfold maxLen at hm2
    have HSB := hid hsn
    have hmb : m ≤ 1048577 := by have := HM.out; have := HC.out.2.1; omega
    have HMM : Hid (m % 2 = 0) := by have := HM.out; have := HC.out.1; unfold Hid; omega
    clear hsn
    obtain ⟨i0, hi0, hz0, hz1, hz2⟩ := info_parts Try.info5
    have HI := hid hi0
    clear hi0
    go_wp2_with fail
    go_loopw [7, 8] (fun t i wv => ∃ (k : Nat) (Tt : List Nat) (wr : World), i = .int .i64 ((k : Int) - 2) ∧ k ≤ m ∧ Hid (k % 2 = 0) ∧ Hid (OwnB wr wc.heap.size t Tt) ∧ Hid (M.tot false Tt = M.tot false (C.drop k) ∧ Tt.length + k = m ∧ (∀ x ∈ Tt, x < 256)) ∧ wr = wv ∧ Below wc.heap.size wc wr) (fun _ i _ => (intOf i + 2).toNat)
    case atStart => exact ⟨m, [], _, rfl, by omega, HMM, ownB_nil _ _, ⟨by rw [List.drop_eq_nil_of_le (by have := HM.out; omega)], by simp, fun x hx => by cases hx⟩, rfl, Below.refl _ _⟩
    case round =>
      obtain ⟨k, Tt, wr, rfl, hk, HKE, HT, HTT, rfl, hbr⟩ := hrel
      by_cases h2 : 2 ≤ k
      · obtain ⟨j, rfl⟩ : ∃ j, k = j + 2 := ⟨k - 2, by omega⟩
        rw [show ((j + 2 : Nat) : Int) - 2 = (j : Int) by omega]
        obtain ⟨g, off, x, rfl, hg, hcx, hx, HX⟩ := (HSB.out.below hbr).at j (by omega)
        obtain ⟨g', off', y, he, _, hcy, hy, HY⟩ := (HSB.out.below hbr).at (j + 1) (by omega)
        simp at he
        obtain ⟨rfl, rfl⟩ := he
        have hcy' := hcy
        rw [← Nat.add_assoc] at hcy'
        have hownX : (wr.drew.alloc (.cells #[.int .u8 (x : Int), .int .u8 (y : Int)] 5)).ownsRow wc.heap.size 5 1 _ Tt.length (bs Tt) := (HT.out.below (below_drew (Below.refl _ _))).alloc _
        have HOX := hid hownX
        have HT3 : Hid (M.tot false (Tt ++ [x, y]) = M.tot false (C.drop j) ∧ (Tt ++ [x, y]).length + j = m ∧ (∀ q ∈ Tt ++ [x, y], q < 256)) := by
          obtain ⟨t1, t2, t3⟩ := HTT.out
          refine ⟨?_, by rw [List.length_append]; simp only [List.length_cons, List.length_nil]; omega, fun q hq => ?_⟩
          · rw [M.tot_word Tt x y (by have := HKE.out; have := HMM.out; omega), t1]
            have e1 : C.drop j = x :: y :: C.drop (j + 2) := by
              obtain ⟨h1, e1⟩ := List.getElem?_eq_some_iff.1 HX.out
              obtain ⟨h2, e2⟩ := List.getElem?_eq_some_iff.1 HY.out
              rw [List.drop_eq_getElem_cons h1, List.drop_eq_getElem_cons h2, e1, e2]
            rw [e1, M.tot_cons2]; omega
          · rcases List.mem_append.1 hq with hq | hq
            · exact t3 q hq
            · simp at hq; omega
        have HLT : Hid (Tt.length + 2 ≤ 1048577) := by have := HTT.out.2.1; unfold Hid; omega
        have h63 : Tt.length + 2 ≤ maxLen := by have := HLT.out; unfold maxLen; omega
        have hby : (Tt.length + 2) * 1 ≤ 140737488355328 := by have := HLT.out; omega
        have hbs : wc.heap.size ≤ (wr.drew.alloc (.cells #[.int .u8 (x : Int), .int .u8 (y : Int)] 5)).heap.size := by have := hbr.size; simp; omega
        have HKJ : Hid (j % 2 = 0) := by have := HKE.out; unfold Hid; omega
        have b0 : (j : Int) < (m : Int) := by omega
        have b1 : (j : Int) + 1 < (m : Int) := by omega
        have b2 : (0 : Int) ≤ (j : Int) + 1 := by omega
        have ew : IntKind.i64.wrap ((j : Int) + 1) = (j : Int) + 1 := by rw [IntKind.wrap_i64]; omega
        have en : ((j : Int) + 1).toNat = j + 1 := by omega
        have hbX : Below wc.heap.size wc (wr.drew.alloc (.cells #[.int .u8 (x : Int), .int .u8 (y : Int)] 5)) := (below_drew hbr).alloc hbr.size _
        have HBX := hid hbX
        clear hownX hbX HTT
        go_upto_region 11 with fail
        go_region_law (first
          | (refine step_append_lies _ (by rfl) _ _ _ (by rfl) wc.heap.size 5 i0 _ 1 1 Try.underlying24 HI.out hz0 hz1 hz2 rfl (by omega) _ Tt.length (bs Tt) (by rfl) HOX.out ⟨wr.heap.size, 0, none⟩ 2 2 [.int .u8 (x : Int), .int .u8 (y : Int)] (by rfl) (by rfl) (World.news_of_block (cs := #[.int .u8 (x : Int), .int .u8 (y : Int)]) (t := 5) (fr := (0, 0)) (heap_alloc_new wr.drew _)) (by simp [Value.oneCell']) (by omega) h63 hby hbs (wr.heap.size + 1) (by simp) ?_; intro g5 cap5 w5 hown5 hgrow hat5 hlt5)
          | fail)
        all_goals (
          have hO5 : OwnB w5 wc.heap.size (.slice (some ⟨g5, 0, none⟩) (Tt.length + 2) cap5) (Tt ++ [x, y]) := by
            unfold OwnB
            rw [List.length_append, show bs (Tt ++ [x, y]) = bs Tt ++ [.int .u8 (x : Int), .int .u8 (y : Int)] by simp [bs]]
            exact hown5
          have HO5 := hid hO5
          have hb5 : Below wc.heap.size wc w5 := HBX.out.trans (below_of_grown (L := Tt) HOX.out hbs hgrow)
          clear hO5 hown5 hgrow hat5 hlt5 hbs h63 hby hcx hcy hcy' ew en
          go_wp2_with fail
          go_roundw
          case rel => exact ⟨j, Tt ++ [x, y], w5, by go_num, by omega, HKJ, HO5, HT3, rfl, hb5⟩
          case measure => (simp [intOf]; omega))
      · obtain rfl : k = 0 := by have := HKE.out; omega
        obtain ⟨t1, t2, t3⟩ := HTT.out
        rw [List.drop_zero] at t1
        have HCT : Hid (M.csum Tt = s) := by unfold Hid M.csum; rw [t1]; exact HC.out.2.2.2.1
        have HST := hid (HT.out.sees t3)
        obtain ⟨att, ntt, capt, rfl, HNT, _, _⟩ := HST.out.shape
        have HTL : Hid (Tt.length ≤ 140737488355328) := by unfold Hid; omega
        have HZ : Hid (65535 - M.fold (M.tot false C + (256 * si + so)) = 0) := by
          unfold Hid; rw [HSL.out]; exact M.own_zero HC.out.2.2.2.2
        have HCL : Hid (C.length ≤ 140737488355000) := by have := HC.out.2.1; unfold Hid; omega
        have hbw := hb.trans (hbr.mono hb.size)
        obtain ⟨t, ht⟩ : ∃ t, t = 65535 - M.fold (M.tot false C + n0) := ⟨_, rfl⟩
        have HTE := hid ht
        have ht1 : t < 65536 := by rw [ht]; omega
        have HSCC := hid HC.out.2.2.2.1
        have HSCE := hid HC.out.2.2.2.2
        have HCEV := hid HC.out.1
        clear t1 t2 t3 HTT HT HC hb ht h2 hk HKE HO
        go_wp2_with fail
        refine (sum_one _ C wr (HSB.out.below hbr) (by have := HCL.out; omega)).mono ?_
        rw [HSCC.out]
        rintro _ w6 ⟨rfl, hb6⟩
        have hc6 := hbr.trans (hb6.mono hbr.size)
        go_wp2_with fail
        refine (sum_one _ Tt w6 (HST.out.below hb6) HTL.out).mono ?_
        rw [HCT.out]
        rintro _ w7 ⟨rfl, hb7⟩
        have hc7 := hc6.trans (hb7.mono hc6.size)
        go_wp2_with fail
        refine (sum_word _ C si so w7 (HSB.out.below hc7) HCL.out hsi1 hso1 HCEV.out).mono ?_
        rw [HZ.out]
        rintro _ w8 ⟨rfl, hb8⟩
        have hc8 := hc7.trans (hb8.mono hc7.size)
        go_wp2_with fail
        refine (sum_word _ C hi lo w8 (HSB.out.below hc8) HCL.out hhi1 hlo1 HCEV.out).mono ?_
        rw [HHL.out, ← HTE.out]
        rintro _ w9 ⟨rfl, hb9⟩
        have hd8 := hbw.trans ((hb6.trans ((hb7.mono hb6.size).trans ((hb8.mono (Nat.le_trans hb6.size hb7.size)).trans (hb9.mono (Nat.le_trans hb6.size (Nat.le_trans hb7.size hb8.size)))))).mono hbw.size)
        have HD := hid hd8
        clear hb6 hb7 hb8 hb9 hc6 hc7 hc8 hd8 hbw hbr
        by_cases hz : n0 = 0
        · subst hz
          have hts : t = s := by rw [HTE.out, HSCE.out]; rfl
          subst hts
          go_wp2_with fail
          go_ret
          exact ⟨ret_bool (by simp), HD.out⟩
        · have hq0 : ((n0 : Int) == 0) = false := by simp; omega
          by_cases ho : n0 = 65535
          · subst ho
            rcases M.more_ones HSCE.out HTE.out with hts | ⟨h1, h2⟩
            · subst hts
              go_wp2_with fail
              go_ret
              exact ⟨ret_bool (by simp), HD.out⟩
            · subst h1 h2
              go_wp2_with fail
              go_ret
              exact ⟨ret_bool (by simp), HD.out⟩
          · have hq1 : ((n0 : Int) == 65535) = false := by simp; omega
            have hne := M.more_else HSCE.out HTE.out hz (by omega)
            have hq2 : ((t : Int) != (s : Int)) = true := by simp; omega
            clear hne hz ho
            go_wp2_with fail
            go_ret
            exact ⟨ret_bool (by simp), HD.out⟩
end Go.Proofs.Ytjjmopmdiflffaa
