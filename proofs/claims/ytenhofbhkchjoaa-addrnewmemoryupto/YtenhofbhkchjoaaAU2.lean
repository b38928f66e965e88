/-
  AddrNewMemory: the law's untouched: the walk.
-/
import Derived.Test.YtenhofbhkchjoaaAU1
namespace Go.Proofs.Ytenhofbhkchjoaa
open Go.ChangeShapes Go.WideShapes Go.ChangeAt Go.RowKit
set_option maxHeartbeats 20000000
set_option maxRecDepth 100000

theorem sees_one {w : World} (p : Nat × Int) : Sees (w.alloc (.cells #[.int .u32 (p.1 : Int), .int .i64 p.2] 30)) (.slice (some ⟨w.heap.size, 0, none⟩) 1 1) [p] := by
  have r := heap_alloc_new w (.cells #[.int .u32 (p.1 : Int), .int .i64 p.2] 30 (0, 0))
  refine ⟨_, 1, rfl, Nat.le_refl _, by decide, fun j hj => ?_⟩
  have : j = 0 := by simp at hj; exact hj
  subst this
  exact ⟨w.heap.size, 0, rfl, by simp, by rw [cell_of_row _ _ _ _ _ _ r]; rfl, by rw [cell_of_row _ _ _ _ _ _ r]; rfl⟩

theorem untouched_any (lo hi : Nat) (v : Value) (L : List (Nat × Int)) (w : World) (hl : lo < 4294967296) (hh : hi < 4294967296) (hs : Sees w v L) (ha : Adr L) (hbL : L.length ≤ 1048576) :
    Calls Try.prog 15 #[.int .u32 lo, .int .u32 hi, v] w fun e w' => e = .returned (.bool true) ∧ Below w.heap.size w w' := by
  obtain ⟨ao, n, cap, rfl, HN, hn1, hn2⟩ := hs.shape
  have hnb : n ≤ 1048576 := by rw [HN.out]; exact hbL
  unfold maxLen at hn2
  have HS := hid hs
  have HA := hid ha
  have HLO := hid hl
  have HHI := hid hh
  have HU : Hid (AnE w w (.slice none 0 0) (.slice none 0 0) (4 * 0)) := ⟨[], [], An.start (Below.refl _ _), rfl⟩
  clear hs ha hbL hl hh
  go_enter Try.func15, Try.ntmps15
  go_upto_region 4 with fail
  go_loopw [7, 8, 9] (fun vl vw i wv => ∃ (k : Nat) (al aw : Option Addr) (nl cl nw cw : Nat) (wr : World), wr = wv ∧ vl = .slice al nl cl ∧ vw = .slice aw nw cw ∧ i = .int .i64 (k : Int) ∧ k ≤ n + 1 ∧ Hid (AnE w wr (.slice al nl cl) (.slice aw nw cw) (4 * k))) (fun _ _ i _ => n + 1 - (intOf i).toNat)
  case atStart => exact ⟨0, none, none, 0, 0, 0, 0, _, rfl, rfl, rfl, rfl, Nat.zero_le _, HU⟩
  case round =>
    clear HU
    obtain ⟨k, al, aw, nl, cl, nw, cw, u, rfl, rfl, rfl, rfl, hk, HU⟩ := hrel
    by_cases hlt : k ≤ n
    · have b1 : (k : Int) ≤ (n : Int) := by omega
      go_upto_region 7 with fail
      go_loopw [7, 8, 10] (fun vl vw i wv => ∃ (q : Nat) (al aw : Option Addr) (nl cl nw cw : Nat) (wr : World), wr = wv ∧ vl = .slice al nl cl ∧ vw = .slice aw nw cw ∧ i = .int .i64 (q : Int) ∧ q ≤ 2 ∧ Hid (AnE w wr (.slice al nl cl) (.slice aw nw cw) (4 * k + 2 * q))) (fun _ _ i _ => 2 - (intOf i).toNat)
      case atStart => exact ⟨0, al, aw, nl, cl, nw, cw, _, rfl, rfl, rfl, rfl, Nat.zero_le _, HU⟩
      case round =>
        clear HU
        obtain ⟨q, al, aw, nl, cl, nw, cw, x, rfl, rfl, rfl, rfl, hq, HU⟩ := hrel
        by_cases hq2 : q < 2
        · have b2 : (q : Int) < 2 := by omega
          by_cases hkn : k < n
          · have b3 : (k : Int) < (n : Int) := by omega
            have b4 : (0 : Int) ≤ (k : Int) := by omega
            have b5 : decide ((k : Int) < 0) = false := by simp
            obtain ⟨g0, o0, p, rfl, hg0, e0, e1, HP⟩ := (HS.out.below (below_drew1 HU.out.be)).at k hkn
            have hp := HA.out p (List.mem_of_getElem? HP.out)
            have HCV := hid (HU.out.cover p.1 p.1 hp hp (by omega) x.drew (below_drew1 (Below.refl _ _)))
            have HPA : Hid (Adr [p]) := fun z hz => by simp at hz; subst hz; exact hp
            have HCE : Hid (∀ y, Below w.heap.size w y → y.cell? ⟨g0, o0 + k * 2, none⟩ = some (.int .u32 (p.1 : Int)) ∧ y.cell? ⟨g0, o0 + k * 2 + 1, none⟩ = some (.int .i64 p.2)) := fun y hy => by
              obtain ⟨g0', o0', p', eg, _, f0, f1, HP'⟩ := (HS.out.below hy).at k hkn
              simp only [Option.some.injEq, Addr.mk.injEq, and_true] at eg
              obtain ⟨rfl, rfl⟩ := eg
              obtain rfl : p' = p := by have := HP'.out; rw [HP.out] at this; exact (Option.some.inj this).symm
              exact ⟨f0, f1⟩
            clear HP hp
            obtain ⟨pa, pl⟩ := p
            simp only at HCV HCE e0 e1
            go_upto_region 12 with fail
            go_cut [11] from 28 to 75 (fun e wx => ∃ a1 n1 c1 y, y = wx ∧ e = .slice a1 n1 c1 ∧ Hid (AnE w y (.slice al nl cl) (.slice aw nw cw) (4 * k + 2 * q)) ∧ Hid (∀ (v : Value) (L : List (Nat × Int)) (u : World), Below y.heap.size y u → Sees u v L → Adr L → Calls Try.prog 16 #[v] u fun e w2 => ∃ a2 n2 c2 er, e = .returned (.tuple #[.slice a2 n2 c2, .int .i64 er]) ∧ Hid (AnR w w2 (.slice al nl cl) (.slice aw nw cw) (.slice a1 n1 c1) (.slice a2 n2 c2) (4 * k + 2 * q))))
            case first =>
              go_region_with (first | (go_at_call 9; refine HCV.out.mono ?_; rintro _ y1 ⟨a1, n1, c1, rfl, hA1, hM1⟩) | fail)
              all_goals (
                go_wp2_with fail
                go_meet
                case rel => exact ⟨a1, n1, c1, _, rfl, rfl, hA1, hM1⟩)
            case rest =>
            obtain ⟨a1, n1, c1, y, hy, rfl, HA1, HM1⟩ := hcut
            subst hy
            obtain ⟨f0, f1⟩ := HCE.out y HA1.out.be
            obtain ⟨wz, HWZ⟩ : ∃ wz, Hid (wz = y.alloc (.cells #[.int .u32 (pa : Int), .int .i64 pl] 30)) := ⟨_, rfl⟩
            have HMC := HM1.out (.slice (some ⟨y.heap.size, 0, none⟩) 1 1) [(pa, pl)] wz (by rw [HWZ.out]; exact (Below.refl _ _).alloc (Nat.le_refl _) _) (by rw [HWZ.out]; exact sees_one (pa, pl)) HPA.out
            rw [HWZ.out] at HMC
            have HMC := hid HMC
            clear e0 e1 HCV HM1 HA1 HCE HWZ HU HPA
            go_wp2_with fail
            refine HMC.out.mono ?_
            rintro _ w2 ⟨a2, n2, c2, er, rfl, HR⟩
            clear f0 f1 HMC
            obtain ⟨a3, m3, c3, w3, HA3, H3⟩ := HR.out
            clear HR
            go_wp2_with (first | (at_builtin; refine Go.Lib.wpList_append_run _ rfl (.tmp 64) (.tmp 67) 48 48 rfl _ _ rfl rfl _ _ HA3.out ?_) | fail)
            refine H3.out.mono ?_
            rintro _ w4 ⟨a4, m4, c4, rfl, H4⟩
            clear H3 HA3
            go_wp2_with fail
            refine H4.out.mono ?_
            rintro _ w5 ⟨a5, m5, c5, rfl, H5⟩
            obtain ⟨a6, m6, c6, w6, HA6, HU6⟩ := H5.out
            clear H4 H5
            go_wp2_with (first | (at_builtin; refine Go.Lib.wpList_append_run _ rfl (.tmp 69) (.tmp 74) 48 48 rfl _ _ rfl rfl _ _ HA6.out ?_) | fail)
            go_roundw
            case rel => exact ⟨q + 1, a3, a6, m3, c3, m6, c6, _, rfl, rfl, rfl, by go_num, by omega, HU6⟩
            case measure => simp [intOf]; omega
          · obtain rfl : k = n := by omega
            have b3 : ¬ (k : Int) < (k : Int) := by omega
            have HCV := hid (HU.out.cover lo hi HLO.out HHI.out (by omega) x (Below.refl _ _))
            clear HU
            go_wp2_with fail
            refine HCV.out.mono ?_
            rintro _ y ⟨a1, n1, c1, rfl, HA1, HM1⟩
            have HMC := hid (HM1.out _ L y (Below.refl _ _) (HS.out.below HA1.out.be) HA.out)
            clear HCV HM1 HA1
            go_wp2_with fail
            refine HMC.out.mono ?_
            rintro _ w2 ⟨a2, n2, c2, er, rfl, HR⟩
            clear HMC
            obtain ⟨a3, m3, c3, w3, HA3, H3⟩ := HR.out
            clear HR
            go_wp2_with (first | (at_builtin; refine Go.Lib.wpList_append_run _ rfl (.tmp 64) (.tmp 67) 48 48 rfl _ _ rfl rfl _ _ HA3.out ?_) | fail)
            refine H3.out.mono ?_
            rintro _ w4 ⟨a4, m4, c4, rfl, H4⟩
            clear H3 HA3
            go_wp2_with fail
            refine H4.out.mono ?_
            rintro _ w5 ⟨a5, m5, c5, rfl, H5⟩
            obtain ⟨a6, m6, c6, w6, HA6, HU6⟩ := H5.out
            clear H4 H5
            go_wp2_with (first | (at_builtin; refine Go.Lib.wpList_append_run _ rfl (.tmp 69) (.tmp 74) 48 48 rfl _ _ rfl rfl _ _ HA6.out ?_) | fail)
            go_roundw
            case rel => exact ⟨q + 1, a3, a6, m3, c3, m6, c6, _, rfl, rfl, rfl, by go_num, by omega, HU6⟩
            case measure => simp [intOf]; omega
        · have b2 : ¬ (q : Int) < 2 := by omega
          obtain rfl : q = 2 := by omega
          have HU2 : Hid (AnE w x (.slice al nl cl) (.slice aw nw cw) (4 * (k + 1))) := HU
          clear HU
          go_wp2_with fail
          go_roundw
          case rel => exact ⟨k + 1, al, aw, nl, cl, nw, cw, _, rfl, rfl, rfl, by go_num, by omega, HU2⟩
          case measure => simp [intOf]; omega
    · have b1 : ¬ (k : Int) ≤ (n : Int) := by omega
      obtain ⟨mm, HMM⟩ : ∃ mm, Hid (mm = 4 * k) := ⟨_, rfl⟩
      have hmm : mm ≤ 4194308 := by have := HMM.out; omega
      rw [← HMM.out] at HU
      obtain ⟨e1, e2, -⟩ := HU.out.pair
      subst e1
      obtain rfl : nl = nw := e2.symm
      clear HMM
      go_upto_region 19 with fail
      go_loopw [13] (fun i wv => ∃ (q : Nat) (wr : World), wr = wv ∧ i = .int .i64 (q : Int) ∧ q ≤ nl ∧ Hid (AnE w wr (.slice al nl cl) (.slice aw nl cw) nl)) (fun i _ => nl - (intOf i).toNat)
      case atStart => exact ⟨0, _, rfl, rfl, Nat.zero_le _, HU⟩
      case round =>
        clear HU
        obtain ⟨q, x1, rfl, rfl, hq, HU⟩ := hrel
        by_cases hqn : q < nl
        · obtain ⟨-, -, hp⟩ := HU.out.pair
          obtain ⟨gl, gw, a, n1, c, a', n2, c', rfl, rfl, y0, y1, HSM⟩ := hp q hqn
          have b1 : (q : Int) < (nl : Int) := by omega
          have b2 : (0 : Int) ≤ (q : Int) := by omega
          have b3 : decide ((q : Int) < 0) = false := by simp
          clear hp
          go_upto_region 21 with fail
          refine wp_region_beh (by kernel_rfl) (by kernel_rfl) ?_
          repeat (go_big_quiet_step (first | (go_at_call 13; exact (HSM _).out)))
          refine wpQuiet_nil ?_
          rintro _ ⟨t, rfl⟩
          have HU2 := hid (HU.out.below t.ok)
          clear y0 y1 HSM HU
          go_wp2_with fail
          go_roundw
          case rel => exact ⟨q + 1, _, rfl, by go_num, hqn, HU2⟩
          case measure => simp [intOf]; omega
        · have b1 : ¬ (q : Int) < (nl : Int) := by omega
          obtain ⟨Vs, Ws, hU, hV⟩ := HU.out
          obtain ⟨K, hL, hK⟩ := hU.lists
          have HV := hid hV
          have HK := hid hK
          have HL : Hid (Me.Ls w x1 (.slice al nl cl) Vs (Me.mkd K 0 0)) := hL.mkStart
          clear hU hL hV hK HU
          go_upto_region 24 with fail
          go_loopw [14] (fun i wv => ∃ (j : Nat) (wr : World), wr = wv ∧ i = .int .i64 (j : Int) ∧ j ≤ nl ∧ Hid (Me.Ls w wr (.slice al nl cl) Vs (Me.mkd K j 0))) (fun i _ => nl - (intOf i).toNat)
          case atStart => exact ⟨0, _, rfl, rfl, Nat.zero_le _, HL⟩
          case round =>
            clear HL
            obtain ⟨j, y, rfl, rfl, hj, HL⟩ := hrel
            by_cases hjn : j < nl
            · have b4 : (j : Int) < (nl : Int) := by omega
              have hw32 : IntKind.u32.wrap (j : Int) = (j : Int) := by rw [IntKind.wrap_u32]; omega
              obtain ⟨lj, HLJ⟩ : ∃ lj, Hid (lj = (K j).length) := ⟨_, rfl⟩
              have hlj : lj ≤ 4294967296 := by have := HK.out j; have := HLJ.out; omega
              go_upto_region 27 with fail
              go_loopw [15] (fun i wv => ∃ (p : Nat) (wr : World), wr = wv ∧ i = .int .i64 (p : Int) ∧ p ≤ lj ∧ Hid (Me.Ls w wr (.slice al nl cl) Vs (Me.mkd K j p))) (fun i _ => lj - (intOf i).toNat)
              case atStart => exact ⟨0, _, rfl, rfl, Nat.zero_le _, HL⟩
              case round =>
                clear HL
                obtain ⟨p, z, rfl, rfl, hp, HL⟩ := hrel
                obtain ⟨g, a, cp, rfl, k1, k2, k3, k4⟩ := HL.out.mkAt (by rw [HV.out]; exact hjn) (by rw [← HLJ.out]; exact hp)
                rw [← HLJ.out] at k1 k3 k4
                by_cases hpl : p < lj
                · obtain ⟨q1, x2, rfl, k5, k6, k7, k8, HL2⟩ := k4 hpl
                  have b5 : (p : Int) < (lj : Int) := by omega
                  clear k4
                  go_wp2_with fail
                  go_roundw
                  case rel => exact ⟨p + 1, _, rfl, by go_num, hpl, HL2⟩
                  case measure => simp [intOf]; omega
                · have b5 : ¬ (p : Int) < (lj : Int) := by omega
                  obtain rfl : p = lj := by omega
                  have HL2 : Hid (Me.Ls w z (.slice (some ⟨g, 0, none⟩) nl cl) Vs (Me.mkd K (j + 1) 0)) := by
                    have := HL.out
                    rw [HLJ.out] at this
                    exact this.mkNext
                  clear k4
                  go_wp2_with fail
                  go_roundw
                  case rel => exact ⟨j + 1, _, rfl, by go_num, hjn, HL2⟩
                  case measure => simp [intOf]; omega
            · have b4 : ¬ (j : Int) < (nl : Int) := by omega
              obtain rfl : j = nl := by omega
              have HGX : Hid (∃ Us, Me.Gs w y (.slice al j cl) (.slice none 0 0) Vs Us (fun j => (K j).length) ∧ Us.length = 0) := by
                have := HL.out
                rw [← HV.out] at this ⊢
                exact ⟨[], this.mkEnd, rfl⟩
              clear HL
              go_upto_region 32 with fail
              go_loopw [16, 17] (fun vm i wv => ∃ (i' nm cm : Nat) (am : Option Addr) (wr : World), wr = wv ∧ vm = .slice am nm cm ∧ i = .int .i64 (i' : Int) ∧ i' ≤ j ∧ Hid (∃ Us, Me.Gs w wr (.slice al j cl) (.slice am nm cm) Vs Us (fun j => (K j).length) ∧ Us.length = i')) (fun _ i _ => j - (intOf i).toNat)
              case atStart => exact ⟨0, 0, 0, none, _, rfl, rfl, rfl, Nat.zero_le _, HGX⟩
              case round =>
                clear HGX
                obtain ⟨i', nm, cm, am, z, rfl, rfl, rfl, hi', HG⟩ := hrel
                by_cases hin : i' < j
                · have b5 : (i' : Int) < (j : Int) := by omega
                  have hw32 : IntKind.u32.wrap (i' : Int) = (i' : Int) := by rw [IntKind.wrap_u32]; omega
                  obtain ⟨Us, hG, hU⟩ := HG.out
                  obtain ⟨g, a, cp, rfl, k1, k2, k3, hGi⟩ := hG.begin (i := i') (by rw [HV.out]; exact hin) hU
                  obtain ⟨li, HLI⟩ : ∃ li, Hid (li = (K i').length) := ⟨_, rfl⟩
                  have hli : li ≤ 4294967296 := by have := HK.out i'; have := HLI.out; omega
                  rw [← HLI.out] at k1 k3 hGi
                  have HGI := hid hGi
                  clear hG hU hGi HG
                  go_upto_region 36 with fail
                  go_loopw [18, 19] (fun gv i wv => ∃ (q ln : Nat) (wr : World), wr = wv ∧ gv = .slice a ln cp ∧ i = .int .i64 (q : Int) ∧ q ≤ 70000 ∧ ln ≤ 4294967296 + q ∧ Hid (Me.Gi w wr (.slice (some ⟨g, 0, none⟩) j cl) (.slice am nm cm) Vs Us (fun j => (K j).length) i' ln a cp)) (fun _ i _ => 70000 - (intOf i).toNat)
                  case atStart => exact ⟨0, li, _, rfl, rfl, rfl, Nat.zero_le _, by omega, HGI⟩
                  case round =>
                    clear HGI k3
                    obtain ⟨q, ln, x2, rfl, rfl, rfl, hq7, hln, HGI⟩ := hrel
                    have k3 := HGI.out.here
                    rw [← HLI.out] at k3
                    by_cases hc : ln < cp ∧ q < 70000
                    · obtain ⟨hc1, hc2⟩ := hc
                      obtain ⟨w', hr, hG2⟩ := HGI.out.grow hc1 (by omega)
                      have HR := hid hr
                      have HG2 := hid hG2
                      have b6 : (ln : Int) < (cp : Int) := by omega
                      have b7 : (q : Int) < 70000 := by omega
                      clear hr hG2
                      go_wp2_with (first | (at_builtin; refine Go.Lib.wpList_append_run _ rfl (.tmp 140) (.tmp 144) 25 25 rfl _ _ rfl rfl _ _ HR.out ?_) | fail)
                      go_roundw
                      case rel => exact ⟨q + 1, ln + 1, _, rfl, rfl, by go_num, hc2, by omega, HG2⟩
                      case measure => simp [intOf]; omega
                    · obtain ⟨a', n', c', w', hr, hG2, hU2⟩ := HGI.out.done (by omega)
                      have HR := hid hr
                      have HG2 : Hid (∃ Us, Me.Gs w w' (.slice (some ⟨g, 0, none⟩) j cl) (.slice a' n' c') Vs Us (fun j => (K j).length) ∧ Us.length = i' + 1) := ⟨_, hG2, hU2⟩
                      clear hr hG2 hU2
                      rcases Nat.lt_or_ge ln cp with hqn | hqn
                      · have b6 : (ln : Int) < (cp : Int) := by omega
                        have b7 : ¬ (q : Int) < 70000 := by omega
                        clear hc
                        go_wp2_with (first | (at_builtin; refine Go.Lib.wpList_append_run _ rfl (.tmp 146) (.tmp 148) 48 48 rfl _ _ rfl rfl _ _ HR.out ?_) | fail)
                        go_roundw
                        case rel => exact ⟨i' + 1, n', c', a', _, rfl, rfl, by go_num, hin, HG2⟩
                        case measure => simp [intOf]; omega
                      · have b6 : ¬ (ln : Int) < (cp : Int) := by omega
                        clear hc
                        go_wp2_with (first | (at_builtin; refine Go.Lib.wpList_append_run _ rfl (.tmp 146) (.tmp 148) 48 48 rfl _ _ rfl rfl _ _ HR.out ?_) | fail)
                        go_roundw
                        case rel => exact ⟨i' + 1, n', c', a', _, rfl, rfl, by go_num, hin, HG2⟩
                        case measure => simp [intOf]; omega
                · have b5 : ¬ (i' : Int) < (j : Int) := by omega
                  obtain rfl : i' = j := by omega
                  obtain ⟨Us, hG, hU⟩ := HG.out
                  have HU := hid hU
                  have hnm : nm = i' := by
                    obtain ⟨am', cm', e, -⟩ := Me.row_len hG.ms
                    simp only [Value.slice.injEq] at e
                    rw [e.2.1, hU]
                  subst hnm
                  have HG1 := hid hG
                  clear hG hU HG
                  go_upto_region 41 with fail
                  go_loopw [20] (fun i wv => ∃ (p : Nat) (wr : World), wr = wv ∧ i = .int .i64 (p : Int) ∧ p ≤ nm ∧ Hid (Me.Gs w wr (.slice al nm cl) (.slice am nm cm) Vs Us (fun j => (K j).length))) (fun i _ => nm - (intOf i).toNat)
                  case atStart => exact ⟨0, _, rfl, rfl, Nat.zero_le _, HG1⟩
                  case round =>
                    clear HG1
                    obtain ⟨p, x2, rfl, rfl, hp, HG⟩ := hrel
                    by_cases hpn : p < nm
                    · have b6 : (p : Int) < (nm : Int) := by omega
                      have b60 : (0 : Int) ≤ (p : Int) := by omega
                      have b61 : decide ((p : Int) < 0) = false := by simp
                      have hw32 : IntKind.u32.wrap (p : Int) = (p : Int) := by rw [IntKind.wrap_u32]; omega
                      obtain ⟨lp, HLP⟩ : ∃ lp, Hid (lp = (K p).length) := ⟨_, rfl⟩
                      obtain ⟨gl, gm, a, m, c, a', c', rfl, rfl, k1, k2, k3, k4, k45, k5, k6⟩ := HG.out.look (i := p) (by rw [HU.out]; exact hpn)
                      rw [← HLP.out] at k2 k4 k45 k6
                      have K5 := hid k5
                      have K6 := hid k6
                      clear k5 k6
                      go_upto_region 44 with fail
                      go_loopw [21] (fun i wv => ∃ (q : Nat) (wr : World), wr = wv ∧ i = .int .i64 (q : Int) ∧ q ≤ m ∧ Hid (Below x2.heap.size x2 wr)) (fun i _ => m - (intOf i).toNat)
                      case atStart => exact ⟨0, _, rfl, rfl, Nat.zero_le _, hid (Below.refl _ _)⟩
                      case round =>
                        obtain ⟨q, x3, rfl, rfl, hq, HBX⟩ := hrel
                        have hgm : gm < x2.heap.size := World.block_lt_of_cell? x2 _ k1
                        have hgl : gl < x2.heap.size := World.block_lt_of_cell? x2 _ k2
                        have m1 : ∀ t : Beh x3, t.wd.cell? ⟨gm, p, none⟩ = some (.slice a m c) := fun t => ((HBX.out.trans (t.ok.mono HBX.out.size)).cell (p := ⟨gm, p, none⟩) hgm).trans k1
                        have m2 : ∀ t : Beh x3, t.wd.cell? ⟨gl, p, none⟩ = some (.slice a' lp c') := fun t => ((HBX.out.trans (t.ok.mono HBX.out.size)).cell (p := ⟨gl, p, none⟩) hgl).trans k2
                        have m3 := m1 ⟨x3, Below.refl _ _⟩
                        simp only at m3
                        by_cases hqm : q < m
                        · have b7 : (q : Int) < (m : Int) := by omega
                          have b70 : (0 : Int) ≤ (q : Int) := by omega
                          have b71 : decide ((q : Int) < 0) = false := by simp
                          obtain ⟨q1, e1, f1, f2⟩ := K5.out q hqm
                          subst e1
                          have hg1 : q1 < x2.heap.size := World.block_lt_of_cell? x2 _ f1
                          have g1 : ∀ t : Beh x3, t.wd.cell? ⟨q1, q * 2, none⟩ = some (.int .u32 (p : Int)) := fun t => ((HBX.out.trans (t.ok.mono HBX.out.size)).cell (p := ⟨q1, _, none⟩) hg1).trans f1
                          have g2 : ∀ t : Beh x3, t.wd.cell? ⟨q1, q * 2 + 1, none⟩ = some (.int .i64 77) := fun t => ((HBX.out.trans (t.ok.mono HBX.out.size)).cell (p := ⟨q1, _, none⟩) hg1).trans f2
                          by_cases hql : q < lp
                          · have b8 : (q : Int) < (lp : Int) := by omega
                            obtain ⟨q2, e2, f3, f4⟩ := K6.out q hql
                            subst e2
                            have hg2 : q2 < x2.heap.size := World.block_lt_of_cell? x2 _ f3
                            have g3 : ∀ t : Beh x3, t.wd.cell? ⟨q2, q * 2, none⟩ = some (.int .u32 (p : Int)) := fun t => ((HBX.out.trans (t.ok.mono HBX.out.size)).cell (p := ⟨q2, _, none⟩) hg2).trans f3
                            have g4 : ∀ t : Beh x3, t.wd.cell? ⟨q2, q * 2 + 1, none⟩ = some (.int .i64 77) := fun t => ((HBX.out.trans (t.ok.mono HBX.out.size)).cell (p := ⟨q2, _, none⟩) hg2).trans f4
                            go_upto_region 46 with fail
                            refine wp_region_beh (by kernel_rfl) (by kernel_rfl) ?_
                            repeat (go_big_quiet_step (fail))
                            refine wpQuiet_nil ?_
                            rintro _ ⟨t, rfl⟩
                            have HBT : Hid (Below x2.heap.size x2 t.wd) := HBX.out.trans (t.ok.mono HBX.out.size)
                            go_wp2_with fail
                            go_roundw
                            case rel => exact ⟨q + 1, _, rfl, by go_num, hqm, HBT⟩
                            case measure => simp [intOf]; omega
                          · have b8 : ¬ (q : Int) < (lp : Int) := by omega
                            go_upto_region 46 with fail
                            refine wp_region_beh (by kernel_rfl) (by kernel_rfl) ?_
                            repeat (go_big_quiet_step (fail))
                            refine wpQuiet_nil ?_
                            rintro _ ⟨t, rfl⟩
                            have HBT : Hid (Below x2.heap.size x2 t.wd) := HBX.out.trans (t.ok.mono HBX.out.size)
                            go_wp2_with fail
                            go_roundw
                            case rel => exact ⟨q + 1, _, rfl, by go_num, hqm, HBT⟩
                            case measure => simp [intOf]; omega
                        · have b7 : ¬ (q : Int) < (m : Int) := by omega
                          have HG2 := hid (HG.out.below HBX.out)
                          go_wp2_with fail
                          go_roundw
                          case rel => exact ⟨p + 1, _, rfl, by go_num, hpn, HG2⟩
                          case measure => simp [intOf]; omega
                    · have b6 : ¬ (p : Int) < (nm : Int) := by omega
                      have HB := hid HG.out.ls.be
                      clear HG
                      go_wp2_with fail
                      go_ret
                      exact ⟨rfl, HB.out⟩
end Go.Proofs.Ytenhofbhkchjoaa
