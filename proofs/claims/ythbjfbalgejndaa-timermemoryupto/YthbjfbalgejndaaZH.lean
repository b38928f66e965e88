/-
  TimerMemory: the walk.
-/
import Derived.Test.YthbjfbalgejndaaZG
namespace Go.Proofs.Ythbjfbalgejndaa
open Go.ChangeShapes Go.WideShapes Go.ChangeAt Go.RowKit Go.Maps H
set_option maxHeartbeats 20000000
set_option maxRecDepth 100000

theorem P4E.chain {w0 w : World} {b bm : Nat} {L : List Dl} {vb : Value} {R : Nat} {D : List Int} {m1 m2 m3 : Int} {n c nu cu p : Nat} {a au : Option Addr} (h : P4E w0 w b bm L vb R (.slice a n c) D m1 (.slice au nu cu) p) (hp : p = D.length) (h2 : In64 m2) (h3 : In64 m3) (hz : p ≤ 300) (hRz : R ≤ 4294967290) :
    ∃ a1 n1 c1 wA a2 n2 c2 wB a3 n3 c3 wC a4 n4 c4 wD a5 n5 c5 wE a6 n6 c6 wF a7 n7 c7 wG a8 n8 c8 wH a9 n9 c9 wI a10 n10 c10 wJ,
      Hid ((Builtin.append_ #[37, 37] 37 #[.slice a n c, .slice (some ⟨w.heap.size, 0, none⟩) 1 1]).run Try.prog (w.alloc (.cells #[.int .i64 m2] 3)) = .ok (.slice a1 n1 c1) wA) ∧
      Hid ((Builtin.append_ #[37, 37] 37 #[.slice a1 n1 c1, .slice (some ⟨wA.heap.size, 0, none⟩) 2 2]).run Try.prog (wA.alloc (.cells #[.int .i64 m3, .int .i64 m3] 3)) = .ok (.slice a2 n2 c2) wB) ∧
      Hid ((Builtin.append_ #[32, 32] 32 #[vb, .slice (some ⟨wB.heap.size, 0, none⟩) 1 1]).run Try.prog (wB.alloc (.cells #[.slice a n c, .slice au nu cu] 42)) = .ok (.slice a3 n3 c3) wC) ∧
      Hid ((Builtin.append_ #[37, 37] 37 #[.slice none 0 0, .slice au nu cu]).run Try.prog wC = .ok (.slice a4 n4 c4) wD) ∧
      Hid ((Builtin.append_ #[37, 37] 37 #[.slice a4 n4 c4, .slice (some ⟨wD.heap.size, 0, none⟩) 1 1]).run Try.prog (wD.alloc (.cells #[.int .i64 m2] 3)) = .ok (.slice a5 n5 c5) wE) ∧
      Hid ((Builtin.append_ #[32, 32] 32 #[.slice a3 n3 c3, .slice (some ⟨wE.heap.size, 0, none⟩) 1 1]).run Try.prog (wE.alloc (.cells #[.slice a1 n1 c1, .slice a5 n5 c5] 42)) = .ok (.slice a6 n6 c6) wF) ∧
      Hid ((Builtin.append_ #[37, 37] 37 #[.slice none 0 0, .slice a5 n5 c5]).run Try.prog wF = .ok (.slice a7 n7 c7) wG) ∧
      Hid ((Builtin.append_ #[37, 37] 37 #[.slice a7 n7 c7, .slice (some ⟨wG.heap.size, 0, none⟩) 2 2]).run Try.prog (wG.alloc (.cells #[.int .i64 m3, .int .i64 m3] 3)) = .ok (.slice a8 n8 c8) wH) ∧
      Hid ((Builtin.append_ #[32, 32] 32 #[.slice a6 n6 c6, .slice (some ⟨wH.heap.size, 0, none⟩) 1 1]).run Try.prog (wH.alloc (.cells #[.slice a2 n2 c2, .slice a8 n8 c8] 42)) = .ok (.slice a9 n9 c9) wI) ∧
      Hid ((Builtin.append_ #[37, 37] 37 #[.slice none 0 0, .slice a8 n8 c8]).run Try.prog wI = .ok (.slice a10 n10 c10) wJ) ∧
      Hid (P7 w0 wJ b bm L (.slice a9 n9 c9) (R + 3) (.slice a2 n2 c2) (.slice a10 n10 c10) 303) := by
  obtain ⟨go, S, Rs, Xs, h, hR, -⟩ := h
  subst hp
  exact h.chain h2 h3 hz hR hRz

theorem memory_walk (v0 v1 : Value) (L : List Dl) (M : List Int) (w : World) (hs0 : SeesP w v0 L) (hs1 : SeesI w v1 M) (hbM : M.length ≤ 1048576) :
    Calls Try.prog 4 #[v0, v1] w fun e w' => e = .returned (.bool true) ∧ Below w.heap.size w w' := by
  have HBG := hid (begun_any w)
  have HUN : Hid (∀ u, Below w.heap.size w u → Calls Try.prog 12 #[v0, v1] u fun e w' => e = .returned (.bool true) ∧ Below u.heap.size u w') := fun u hu => untouched_any v0 v1 L M u (hs0.below hu) (hs1.below hu) hbM
  obtain ⟨ao, nL, capL, rfl, HNL, hl1, hl2⟩ := hs0.shape
  obtain ⟨bo, n, cap, rfl, HN, hn1, hn2⟩ := hs1.shape
  have hnM : n ≤ 1048576 := by rw [HN.out]; exact hbM
  have HS0 := hid hs0
  have HS1 := hid hs1
  unfold maxLen at hl2 hn2
  clear hs0 hs1 hbM
  go_enter Try.func4, Try.ntmps4
  go_wp2_with fail
  refine HBG.out.mono ?_
  rintro _ w1 ⟨rfl, hb1⟩
  have HNE := hid (new_good 65536 w1 (by decide) (by decide))
  have HB1 := hid hb1
  clear hb1 HBG
  go_wp2_with fail
  refine HNE.out.mono ?_
  rintro _ w2 ⟨b, bm, rfl, hT, hx1, hx2, _, hbe⟩
  have hB2 : Below w.heap.size w w2 := HB1.out.trans (hbe.mono HB1.out.size)
  have HUC := hid (HUN.out w2 hB2)
  have hz1 := HB1.out.size
  have HTB : Hid (TB w w2 b bm none [] L) := ⟨hT, (fun x hx => by cases hx), fun x hx => by
    simp [fp] at hx
    rcases hx with rfl | rfl
    · exact Nat.le_trans hz1 hx1
    · exact Nat.le_trans hz1 hx2, hB2⟩
  clear hT hx1 hx2 hbe HNE HUN HB1 hB2 hz1
  go_wp2_with fail
  refine HUC.out.mono ?_
  rintro _ w3 ⟨rfl, hb3⟩
  have HW : Hid (WkE w w3 b bm L (.slice none 0 0) (4 * 0)) := ⟨none, [], [], [], ⟨HTB.out.below hb3, World.ownsRow_nil _ _ _ _, (fun e he => by cases he), fun r hr => by cases hr⟩, rfl⟩
  clear hb3 HUC HTB
  go_upto_region 12 with fail
  go_loopw [9, 10] (fun vb i wv => ∃ (k nb cb : Nat) (ab : Option Addr) (wr : World), wr = wv ∧ vb = .slice ab nb cb ∧ i = .int .i64 (k : Int) ∧ k ≤ n ∧ Hid (WkE w wr b bm L (.slice ab nb cb) (4 * k))) (fun _ i _ => n - (intOf i).toNat)
  case atStart => exact ⟨0, 0, 0, none, _, rfl, rfl, rfl, Nat.zero_le _, HW⟩
  case round =>
    clear HW
    obtain ⟨k, nb, cb, ab, u, rfl, rfl, rfl, hk, HW⟩ := hrel
    by_cases hlt : k < n
    · have hlt' : (k : Int) < (n : Int) := by omega
      go_upto_region 15 with fail
      go_loopw [11] (fun j wv => ∃ (q : Nat) (wr : World), wr = wv ∧ j = .int .i64 (q : Int) ∧ q ≤ nL ∧ Hid (WkE w wr b bm L (.slice ab nb cb) (4 * k))) (fun j _ => nL - (intOf j).toNat)
      case atStart => exact ⟨0, _, rfl, rfl, Nat.zero_le _, HW⟩
      case round =>
        clear HW
        obtain ⟨q, x, rfl, rfl, hq, HW⟩ := hrel
        by_cases hc : q < nL ∧ q < 300
        · obtain ⟨hqn, hq3⟩ := hc
          obtain ⟨g0, o0, d, rfl, hg0, e0, e1, hd, HD⟩ := (HS0.out.below HW.out.be).at q hqn
          have HSE := hid (HW.out.set HD.out hq3 hd.1 hd.2)
          have b1 : (q : Int) < (nL : Int) := by omega
          have b2 : (q : Int) < 300 := by omega
          clear HD hd
          generalize hd1 : d.1 = z0 at *
          generalize hd2 : d.2 = z1 at *
          clear hd1 hd2
          go_upto_region 17 with fail
          go_cut [7] from 47 to 70 (fun e wx => ∃ y, y = wx ∧ e = .int .i64 0 ∧ Hid (WkE w y b bm L (.slice ab nb cb) (4 * k)))
          case first =>
            go_region_with (first | (go_at_call 13; refine HSE.out.mono ?_; rintro _ y1 ⟨rfl, hu1⟩) | fail)
            all_goals (
              go_wp2_with fail
              go_meet
              case rel => exact ⟨_, rfl, rfl, hu1⟩)
          case rest =>
          obtain ⟨y, hy, rfl, HU2⟩ := hcut
          subst hy
          clear e0 e1 HSE HW
          go_wp2_with fail
          go_roundw
          case rel => exact ⟨q + 1, _, rfl, by go_num, by omega, HU2⟩
          case measure => simp [intOf]; omega
        · obtain ⟨g1, o1, now, rfl, hg1, c0, hin, HNW⟩ := (HS1.out.below HW.out.be).at k hlt
          have hz1 : (-9223372036854775808 : Int) ≤ -100 * (k : Int) := by omega
          have hz2 : -100 * (k : Int) ≤ (9223372036854775807 : Int) := by omega
          have hz3 : (-9223372036854775808 : Int) ≤ -100 * (k : Int) - 1 := by omega
          have hz4 : -100 * (k : Int) - 1 ≤ (9223372036854775807 : Int) := by omega
          obtain ⟨sl, HLN, hsl, HDU⟩ := HW.out.due now (-100 * (k : Int) - 1) hin ⟨hz3, hz4⟩
          have hcc : q < nL → ¬ q < 300 := fun h h' => hc ⟨h, h'⟩
          clear hin HNW hg1 hc
          go_upto_region 15 with fail
          go_cut [54] from 47 to 70 (fun e wx => e = .bool false ∧ wx = x)
          case first =>
            rcases Nat.lt_or_ge q nL with hqn | hqn
            · have b2 : ¬ (q : Int) < 300 := by have := hcc hqn; omega
              have b3 : (q : Int) < (nL : Int) := by omega
              go_wp2_with fail
              go_meet
              case rel => exact ⟨rfl, rfl⟩
            · have b2 : ¬ (q : Int) < (nL : Int) := by omega
              go_wp2_with fail
              go_meet
              case rel => exact ⟨rfl, rfl⟩
          case rest =>
          obtain ⟨rfl, rfl⟩ := hcut
          clear hcc
          go_wp2_with fail
          refine HLN.out.mono ?_
          rintro _ x' ⟨rfl, e⟩
          obtain rfl := e.symm
          clear HLN
          go_wp2_with fail
          refine HDU.out.mono ?_
          rintro _ w4 ⟨a, nl, c, rl, D, rfl, HSL, hnl, hrl, HD, hc1, hc2, HLN2, HP4⟩
          clear HDU c0 HW
          go_wp2_with fail
          refine HLN2.out.mono ?_
          rintro _ x' ⟨rfl, e⟩
          obtain rfl := e.symm
          clear HLN2
          have hr1 : ((rl : Int) != (sl : Int) - (nl : Int)) = false := by have := HSL.out; simp; omega
          go_upto_region 24 with fail
          clear HSL hr1 hz1 hz2 hsl hrl
          have hz1 : (-9223372036854775808 : Int) ≤ -100 * (k : Int) := by omega
          have hz2 : -100 * (k : Int) ≤ (9223372036854775807 : Int) := by omega
          have hz5 : (-9223372036854775808 : Int) ≤ -100 * (k : Int) - 2 := by omega
          have hz6 : -100 * (k : Int) - 2 ≤ (9223372036854775807 : Int) := by omega
          have hz7 : (-9223372036854775808 : Int) ≤ -100 * (k : Int) - 3 := by omega
          have hz8 : -100 * (k : Int) - 3 ≤ (9223372036854775807 : Int) := by omega
          have hz9 : (-9223372036854775808 : Int) ≤ -100 * (k : Int) - 4 := by omega
          have hz0 : -100 * (k : Int) - 4 ≤ (9223372036854775807 : Int) := by omega
          go_upto_region 26 with fail
          go_loopw [14, 15] (fun vw i wv => ∃ (p nu cu : Nat) (au : Option Addr) (wr : World), wr = wv ∧ vw = .slice au nu cu ∧ i = .int .i64 (p : Int) ∧ p ≤ nl ∧ Hid (P4E w wr b bm L (.slice ab nb cb) (4 * k) (.slice a nl c) D (-100 * (k : Int) - 1) (.slice au nu cu) p)) (fun _ i _ => nl - (intOf i).toNat)
          case atStart => exact ⟨0, 0, 0, none, _, rfl, rfl, rfl, Nat.zero_le _, HP4⟩
          case round =>
            clear HP4
            obtain ⟨p, nu, cu, au, y, rfl, rfl, rfl, hp, HP⟩ := hrel
            by_cases hpn : p < nl
            · have b4 : (p : Int) < (nl : Int) := by omega
              obtain ⟨q1, x1, rfl, d0, d1, d2, HWH, HAP⟩ := HP.out.at (by rw [← HD.out]; exact hpn) (by rw [← HD.out]; exact hnl)
              obtain ⟨a', n', c', w', HR, HP2⟩ := HAP.out
              clear HAP HP
              go_wp2_with fail
              refine HWH.out.mono ?_
              rintro _ y' ⟨rfl, e⟩
              obtain rfl := e.symm
              clear HWH
              go_wp2_with (first | (at_builtin; refine Go.Lib.wpList_append_run _ rfl (.tmp 109) (.tmp 114) 37 37 rfl _ _ rfl rfl _ _ HR.out ?_) | fail)
              go_roundw
              case rel => exact ⟨p + 1, n', c', a', _, rfl, rfl, by go_num, hpn, HP2⟩
              case measure => simp [intOf]; omega
            · have b4 : ¬ (p : Int) < (nl : Int) := by omega
              obtain rfl : p = nl := by omega
              obtain ⟨a1, n1, c1, wA, a2, n2, c2, wB, a3, n3, c3, wC, a4, n4, c4, wD, a5, n5, c5, wE, a6, n6, c6, wF, a7, n7, c7, wG, a8, n8, c8, wH, a9, n9, c9, wI, a10, n10, c10, wJ, HA, HB, HC, HDD, HE, HF, HG, HH, HI, HJ, HP7⟩ := HP.out.chain (m2 := -100 * (k : Int) - 2) (m3 := -100 * (k : Int) - 3) HD.out ⟨hz5, hz6⟩ ⟨hz7, hz8⟩ hnl (by omega)
              clear HP
              go_upto_region 43 with (first | (at_builtin; refine Go.Lib.wpList_append_run _ rfl (.tmp 116) (.tmp 120) 37 37 rfl _ _ rfl rfl _ _ HA.out ?_) | (at_builtin; refine Go.Lib.wpList_append_run _ rfl (.tmp 122) (.tmp 129) 37 37 rfl _ _ rfl rfl _ _ HB.out ?_) | (at_builtin; refine Go.Lib.wpList_append_run _ rfl (.tmp 131) (.tmp 135) 32 32 rfl _ _ rfl rfl _ _ HC.out ?_) | (at_builtin; refine Go.Lib.wpList_append_run _ rfl (.const (.slice none 0 0)) (.tmp 137) 37 37 rfl _ _ rfl rfl _ _ HDD.out ?_) | (at_builtin; refine Go.Lib.wpList_append_run _ rfl (.tmp 138) (.tmp 142) 37 37 rfl _ _ rfl rfl _ _ HE.out ?_) | (at_builtin; refine Go.Lib.wpList_append_run _ rfl (.tmp 144) (.tmp 148) 32 32 rfl _ _ rfl rfl _ _ HF.out ?_) | (at_builtin; refine Go.Lib.wpList_append_run _ rfl (.const (.slice none 0 0)) (.tmp 150) 37 37 rfl _ _ rfl rfl _ _ HG.out ?_) | (at_builtin; refine Go.Lib.wpList_append_run _ rfl (.tmp 151) (.tmp 158) 37 37 rfl _ _ rfl rfl _ _ HH.out ?_) | (at_builtin; refine Go.Lib.wpList_append_run _ rfl (.tmp 160) (.tmp 164) 32 32 rfl _ _ rfl rfl _ _ HI.out ?_) | (at_builtin; refine Go.Lib.wpList_append_run _ rfl (.const (.slice none 0 0)) (.tmp 167) 37 37 rfl _ _ rfl rfl _ _ HJ.out ?_) | fail)
              clear HA HB HC HDD HE HF HG HH HI HJ
              go_loopw [14, 20, 21] (fun vw vg i wv => ∃ (q2 nu cu ng cg : Nat) (au ag : Option Addr) (wr : World), wr = wv ∧ vw = .slice au nu cu ∧ vg = .slice ag ng cg ∧ i = .int .i64 (q2 : Int) ∧ q2 ≤ 70000 ∧ Hid (P7 w wr b bm L (.slice a9 n9 c9) (4 * k + 3) (.slice ag ng cg) (.slice au nu cu) (303 + q2))) (fun _ _ i _ => 70000 - (intOf i).toNat)
              case atStart => exact ⟨0, n10, c10, n2, c2, a10, a2, _, rfl, rfl, rfl, rfl, Nat.zero_le _, HP7⟩
              case round =>
                clear HP7
                obtain ⟨q2, nu, cu, ng, cg, au, ag, z, rfl, rfl, rfl, rfl, hq2, HP7⟩ := hrel
                have hng := HP7.out.len
                by_cases hcc : ng < c ∧ q2 < 70000
                · obtain ⟨hc3, hc4⟩ := hcc
                  have b5 : (ng : Int) < (c : Int) := by omega
                  have b6 : (q2 : Int) < 70000 := by omega
                  obtain ⟨a11, n11, c11, wK, a12, n12, c12, wL, HK, HL, HP8⟩ := HP7.out.step (m := -100 * (k : Int) - 4) ⟨hz9, hz0⟩ (by omega)
                  clear HP7
                  go_wp2_with (first | (at_builtin; refine Go.Lib.wpList_append_run _ rfl (.tmp 180) (.tmp 184) 37 37 rfl _ _ rfl rfl _ _ HK.out ?_) | (at_builtin; refine Go.Lib.wpList_append_run _ rfl (.tmp 186) (.tmp 190) 37 37 rfl _ _ rfl rfl _ _ HL.out ?_) | fail)
                  go_roundw
                  case rel => exact ⟨q2 + 1, n12, c12, n11, c11, a12, a11, _, rfl, rfl, rfl, by go_num, hc4, HP8⟩
                  case measure => simp [intOf]; omega
                · obtain ⟨a13, n13, c13, wM, HM, HWE⟩ := HP7.out.done (by omega)
                  clear HP7
                  go_upto_region 43 with fail
                  go_cut [177] from 169 to 191 (fun e wx => e = .bool false ∧ wx = z)
                  case first =>
                    rcases Nat.lt_or_ge ng c with hqn | hqn
                    · have b5 : ¬ (q2 : Int) < 70000 := by omega
                      have b6 : (ng : Int) < (c : Int) := by omega
                      go_wp2_with fail
                      go_meet
                      case rel => exact ⟨rfl, rfl⟩
                    · have b5 : ¬ (ng : Int) < (c : Int) := by omega
                      go_wp2_with fail
                      go_meet
                      case rel => exact ⟨rfl, rfl⟩
                  case rest =>
                  obtain ⟨rfl, rfl⟩ := hcut
                  clear hcc hng
                  go_upto_region 49 with (first | (at_builtin; refine Go.Lib.wpList_append_run _ rfl (.tmp 192) (.tmp 196) 32 32 rfl _ _ rfl rfl _ _ HM.out ?_) | fail)
                  clear HM
                  obtain ⟨R4, HR4⟩ : ∃ R4, Hid (R4 = 4 * k + 3 + 1) := ⟨_, rfl⟩
                  have hR4 : R4 ≤ 4294967296 := by have := HR4.out; omega
                  rw [← HR4.out] at HWE
                  obtain ⟨e1, -⟩ := HWE.out.pair
                  obtain rfl := e1
                  go_loopw [22] (fun i wv => ∃ (j : Nat) (wr : World), wr = wv ∧ i = .int .i64 (j : Int) ∧ j ≤ n13 ∧ Hid (WkE w wr b bm L (.slice a13 n13 c13) n13)) (fun i _ => n13 - (intOf i).toNat)
                  case atStart => exact ⟨0, _, rfl, rfl, Nat.zero_le _, HWE⟩
                  case round =>
                    clear HWE
                    obtain ⟨j, y2, rfl, rfl, hj, HW⟩ := hrel
                    by_cases hjn : j < n13
                    · obtain ⟨-, hpp⟩ := HW.out.pair
                      obtain ⟨gb, a14, n14, c14, a15, n15, c15, rfl, y0, y1, HSM⟩ := hpp j hjn
                      have b7 : (j : Int) < (n13 : Int) := by omega
                      have b8 : (0 : Int) ≤ (j : Int) := by omega
                      have b9 : decide ((j : Int) < 0) = false := by simp
                      clear hpp
                      go_upto_region 51 with fail
                      refine wp_region_beh (by kernel_rfl) (by kernel_rfl) ?_
                      repeat (go_big_quiet_step (first | (go_at_call 17; exact (HSM _).out)))
                      refine wpQuiet_nil ?_
                      rintro _ ⟨t, rfl⟩
                      have HU2 := hid (HW.out.below t.ok)
                      clear y0 y1 HSM HW
                      go_wp2_with fail
                      go_roundw
                      case rel => exact ⟨j + 1, _, rfl, by go_num, hjn, HU2⟩
                      case measure => simp [intOf]; omega
                    · have b7 : ¬ (j : Int) < (n13 : Int) := by omega
                      have HW2 : Hid (WkE w y2 b bm L (.slice a13 n13 c13) (4 * (k + 1))) := by
                        rw [show 4 * (k + 1) = n13 from HR4.out.symm]
                        exact HW
                      clear HW
                      go_wp2_with fail
                      go_roundw
                      case rel => exact ⟨k + 1, n13, c13, a13, _, rfl, rfl, by go_num, hlt, HW2⟩
                      case measure => simp [intOf]; omega
    · have hlt' : ¬ (k : Int) < (n : Int) := by omega
      have HB := hid HW.out.be
      clear HW
      go_wp2_with fail
      go_ret
      exact ⟨rfl, HB.out⟩
end Go.Proofs.Ythbjfbalgejndaa
