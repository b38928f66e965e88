/-
  IpamFull: the walk.
-/
import Derived.Test.YtjilahbkolcekabFN
import Derived.Test.YtjilahbkolcekabFP
import Derived.Test.YtjilahbkolcekabEW
namespace Go.Proofs.Ytjilahbkolcekab
open Go.ChangeShapes Go.WideShapes Go.ChangeAt Go.RowKit Go.Maps Tri
set_option maxHeartbeats 8000000
set_option maxRecDepth 100000

theorem fil_new (x n : Nat) : Ist.new x (n : Int) = fil x (2 ^ (32 - n)) 0 := by unfold Ist.new fil; simp

theorem full_walk (x : Nat) (y : Int) (gone : Int) (w : World) (hx : x < 4294967296) (hg1 : -9223372036854775808 ≤ gone) (hg2 : gone ≤ 9223372036854775807) :
    Calls Try.prog 6 #[.agg #[.int .u32 (x : Int), .int .i64 y], .int .i64 gone] w fun e w' => e = .returned (.bool true) ∧ Below w.heap.size w w' := by
  obtain ⟨wa, HWA⟩ : ∃ wa, Hid (wa = w.alloc (.cells #[.int .u32 (x : Int), .int .i64 y] 25)) := ⟨_, rfl⟩
  have HB0 : Hid (Below w.heap.size w wa) := by unfold Hid; rw [HWA.out]; exact (Below.refl _ _).alloc (Nat.le_refl _) _
  have R1 : Hid (wa.heap[w.heap.size]? = some (.cells #[.int .u32 (x : Int), .int .i64 y] 25)) := by unfold Hid; rw [HWA.out]; exact heap_alloc_new w _
  obtain ⟨q0, q1⟩ := Beh.two R1.out
  have c0 := q0 ⟨wa, Below.refl _ _⟩
  have c1 := q1 ⟨wa, Below.refl _ _⟩
  simp only at c0 c1
  have HCX : Hid (∀ u : World, Below wa.heap.size wa u → u.cell? ⟨w.heap.size, 0, none⟩ = some (.int .u32 (x : Int)) ∧ u.cell? ⟨w.heap.size, 1, none⟩ = some (.int .i64 y)) := fun u hu => ⟨q0 ⟨u, hu⟩, q1 ⟨u, hu⟩⟩
  have HMY := hid (may_any x y wa hx)
  clear q0 q1
  cases hnb : nwB x y with
  | false =>
    rw [hnb] at HMY
    go_enter Try.func6, Try.ntmps6
    go_upto_region 1 with fail
    rw [← HWA.out]
    go_wp2_with fail
    refine HMY.out.mono ?_
    rintro _ w1 ⟨rfl, hb1⟩
    obtain ⟨d0, d1⟩ := HCX.out w1 hb1
    have HN := hid (new_any x y w1 hx)
    have HB1 := hid (HB0.out.trans (hb1.mono HB0.out.size))
    clear c0 c1 hb1 HMY
    go_wp2_with fail
    refine HN.out.mono ?_
    rintro _ w2 (⟨hb, rfl, hb2⟩ | ⟨hb, pb, bn, ba, rfl, hi2, hk2, hb2⟩)
    · have HF := hid (first_any w2)
      have HB2 := hid (HB1.out.trans (hb2.mono HB1.out.size))
      clear d0 d1 hb hb2 HN
      go_wp2_with fail
      refine HF.out.mono ?_
      rintro _ w3 ⟨rfl, hb3⟩
      have HB3 := hid (HB2.out.trans (hb3.mono HB2.out.size))
      clear hb3 HF
      go_wp2_with fail
      go_ret
      exact ⟨rfl, HB3.out⟩
    · rw [hnb] at hb; cases hb
  | true =>
    rw [hnb] at HMY
    have HNB := hid hnb
    obtain ⟨n, rfl, hn1, hn30⟩ : ∃ n : Nat, y = (n : Int) ∧ 1 ≤ n ∧ n ≤ 30 := by
      unfold nwB at hnb
      rw [decide_eq_true_eq] at hnb
      exact ⟨y.toNat, by omega, by omega, by omega⟩
    obtain ⟨z, HZ⟩ : ∃ z, Hid (z = 2 ^ (32 - n)) := ⟨2 ^ (32 - n), hid rfl⟩
    have hz4 : 4 ≤ z := by rw [HZ.out]; exact pow_lo hn30
    have hz31 : z ≤ 2147483648 := by rw [HZ.out]; exact pow_hi hn1
    have HSZ : ∀ u : World, Hid (Calls Try.prog 16 #[.agg #[.int .u32 (x : Int), .int .i64 (n : Int)]] u fun e w' => e = .returned (.int .i64 (z : Int)) ∧ Below u.heap.size u w') := fun u => by
      rw [HZ.out]; exact size_any x n u hn1 hn30
    obtain ⟨m, HM⟩ : ∃ m, Hid (m = min (z - 3) 1024) := ⟨_, rfl⟩
    have hm1 : 1 ≤ m := by rw [HM.out]; omega
    have hm2 : m ≤ 1024 := by rw [HM.out]; omega
    have hm3 : m + 3 ≤ z := by rw [HM.out]; omega
    clear hnb
    go_enter Try.func6, Try.ntmps6
    go_upto_region 1 with fail
    rw [← HWA.out]
    go_wp2_with fail
    refine HMY.out.mono ?_
    rintro _ w1 ⟨rfl, hb1⟩
    obtain ⟨d0, d1⟩ := HCX.out w1 hb1
    have HN := hid (new_any x (n : Int) w1 hx)
    have HB1 := hid hb1
    clear c0 c1 hb1 HMY
    go_wp2_with fail
    refine HN.out.mono ?_
    rintro _ w2 (⟨hb, rfl, hb2⟩ | ⟨hb, pb, bn, ba, rfl, hi2, hk2, hb2⟩)
    · rw [HNB.out] at hb; cases hb
    · have HF := hid (first_any w2)
      have HB2 := hid (HB1.out.trans (hb2.mono HB1.out.size))
      have HFP : Hid (∀ k, fpI pb bn ba k → wa.heap.size ≤ k) := fun k hk => Nat.le_trans HB1.out.size (hk2 k hk)
      have HI2 : Hid (IpAt w2 pb bn ba (fil x z 0)) := by rw [fil_new, ← HZ.out] at hi2; exact hi2
      clear d0 d1 hb hb2 HN hi2 hk2
      go_wp2_with fail
      refine HF.out.mono ?_
      rintro _ w3 ⟨rfl, hb3⟩
      have HB3 := hid (HB2.out.trans (hb3.mono HB2.out.size))
      have HI3 := hid (HI2.out.below hb3)
      obtain ⟨d0, d1⟩ := HCX.out w3 HB3.out
      have HS3 := HSZ w3
      clear hb3 HF HB2 HI2
      go_wp2_with fail
      refine HS3.out.mono ?_
      rintro _ w4 ⟨rfl, hb4⟩
      have HB4 := hid (HB3.out.trans (hb4.mono HB3.out.size))
      have HI4 := hid (HI3.out.below hb4)
      clear hb4 HS3 HB3 HI3 d0 d1
      go_upto_if 53 with fail
      go_cut [9] from 53 to 53 (fun r wx => r = .int .i64 (m : Int) ∧ wx = w4)
      case first =>
        by_cases g : 1024 < z - 3
        · have g' : (1024 : Int) < (z : Int) - 3 := by omega
          have HE : Hid (m = 1024) := by unfold Hid; rw [HM.out]; omega
          go_wp2_with fail
          go_meet
          exact ⟨by rw [HE.out]; rfl, rfl⟩
        · have g' : ¬ (1024 : Int) < (z : Int) - 3 := by omega
          have HE : Hid ((m : Int) = (z : Int) - 3) := by have := HM.out; unfold Hid; omega
          go_wp2_with fail
          go_meet
          exact ⟨by rw [HE.out], rfl⟩
      case rest =>
        obtain ⟨rfl, ew⟩ := hcut
        obtain rfl := ew.symm
        clear ew
        go_upto_region 11 with fail
        go_loopw [10] (fun i wr => ∃ j : Nat, i = .int .i64 (j : Int) ∧ j ≤ m ∧ Hid (IpAt wr pb bn ba (fil x z j)) ∧ Hid (Below wa.heap.size wa wr)) (fun i _ => m - (intOf i).toNat)
        case atStart => exact ⟨0, rfl, Nat.zero_le _, HI4, HB4⟩
        case round =>
          obtain ⟨j, rfl, hj, HI, HB⟩ := hrel
          by_cases hlt : j < m
          · have hlt' : (j : Int) < (m : Int) := int_lt hlt
            have HNA := hid (name_any j wr (by omega))
            have HAD := hid (fil_add (b := x) (z := z) (i := j) (by omega) (by omega))
            go_wp2_with fail
            refine HNA.out.mono ?_
            rintro _ w5 ⟨rfl, hb5⟩
            have HI5 := hid (HI.out.below hb5)
            have HB5 := hid (HB.out.trans (hb5.mono HB.out.size))
            have HA := hid (add_any w5 pb bn ba (fil x z j) (nmN j) HI5.out (by rw [nmN_size]; unfold maxLen; omega))
            rw [HAD.out] at HA
            clear hb5 HNA HAD
            generalize nmN j = nm at *
            generalize x + (j + 2) = aa at *
            go_wp2_with fail
            refine HA.out.mono ?_
            rintro _ w6 ⟨rfl, hi6, hk6⟩
            have HI6 := hid hi6
            have HB6 := hid (HB5.out.trans (hk6.below HB5.out.size HFP.out))
            clear hi6 hk6 HA
            go_wp2_with fail
            go_roundw
            case rel => exact ⟨j + 1, by go_num, hlt, HI6, HB6⟩
            case measure => simp [intOf]; omega
          · have hlt' : ¬ (j : Int) < (m : Int) := int_nlt hlt
            have hjm : j = m := by omega
            subst hjm
            have HOM : Hid (omN = ⟨#[111, 110, 101, 45, 109, 111, 114, 101]⟩) := rfl
            have HTM : Hid (tmN = ⟨#[116, 119, 111, 45, 109, 111, 114, 101]⟩) := rfl
            have HA := hid (add_any wr pb bn ba (fil x z j) omN HI.out (by decide))
            rw [full_none HI.out.ok HM.out, HOM.out] at HA
            go_wp2_with fail
            refine HA.out.mono ?_
            rintro _ w5 ⟨rfl, hi5, hk5⟩
            have HI5 := hid hi5
            have HB5 := hid (HB.out.trans (hk5.below HB.out.size HFP.out))
            have HLS := hid (list_any w5 pb bn ba (fil x z j) hi5)
            clear hi5 hk5 HA
            go_wp2_with fail
            refine HLS.out.mono ?_
            rintro _ w6 ⟨vl, L, rfl, ho6, hs6, hb6⟩
            obtain ⟨al, nl, cl, rfl, HNL, -, -, -⟩ := ho6.shape
            have hnl : nl = j := by rw [HNL.out, hs6.1.length_eq, fil_len]
            have HI6 := hid (HI5.out.below hb6)
            have HB6 := hid (HB5.out.trans (hb6.mono HB5.out.size))
            clear ho6 hs6 hb6 HLS HNL
            subst hnl
            obtain ⟨G, HG⟩ : ∃ G : Nat, Hid ((G : Int) = if gone < 0 then -(gone + 1) else gone) := by
              by_cases h : gone < 0
              · exact ⟨(-(gone + 1)).toNat, hid (by rw [if_pos h]; omega)⟩
              · exact ⟨gone.toNat, hid (by rw [if_neg h]; omega)⟩
            have hG : (G : Int) ≤ 9223372036854775807 := by rw [HG.out]; split <;> omega
            go_upto_if 83 with fail
            go_cut [1] from 83 to 86 (fun r wx => r = .int .i64 (G : Int) ∧ wx = w6)
            case first =>
              by_cases g : gone < 0
              · have HE : Hid ((G : Int) = -(gone + 1)) := by unfold Hid; rw [HG.out, if_pos g]
                clear HG
                go_wp2_with fail
                go_meet
                exact ⟨by rw [HE.out], rfl⟩
              · have HE : Hid ((G : Int) = gone) := by unfold Hid; rw [HG.out, if_neg g]
                clear HG
                go_wp2_with fail
                go_meet
                exact ⟨by rw [HE.out], rfl⟩
            case rest =>
              obtain ⟨rfl, ew⟩ := hcut
              obtain rfl := ew.symm
              clear ew HG
              obtain ⟨q, HQ⟩ : ∃ q, Hid (q = G % nl) := ⟨_, rfl⟩
              have hq : q < nl := by rw [HQ.out]; exact Nat.mod_lt _ (by omega)
              have htm : Int.tmod (G : Int) (nl : Int) = (q : Int) := by rw [HQ.out, ← Int.ofNat_tmod]
              have hnz : ¬ (nl : Int) = 0 := by omega
              have hem : (G : Int) % (nl : Int) = (q : Int) := by rw [HQ.out]; rfl
              have HNA := hid (name_any q w6 (by omega))
              have HDL := hid (fil_del HI6.out.ok hq)
              obtain ⟨r, hr1, hr2, hr3⟩ := full_turn HI6.out.ok HM.out hq
              have HR1 := hid hr1
              have HR2 := hid hr2
              have HR3 := hid hr3
              clear HQ hr1 hr2 hr3
              go_wp2_with fail
              refine HNA.out.mono ?_
              rintro _ w7 ⟨rfl, hb7⟩
              have HI7 := hid (HI6.out.below hb7)
              have HB7 := hid (HB6.out.trans (hb7.mono HB6.out.size))
              have HD := hid (del_any w7 pb bn ba (fil x z nl) (nmN q) HI7.out (by rw [nmN_size]; unfold maxLen; omega))
              rw [HDL.out] at HD
              clear hb7 HNA HDL htm hem
              generalize (fil x z nl).del (nmN q) = S1 at *
              generalize nmN q = nm at *
              obtain ⟨a1, HA1⟩ : ∃ a1, Hid (a1 = x + 2 + q) := ⟨_, rfl⟩
              rw [← HA1.out] at HD
              go_wp2_with fail
              refine HD.out.mono ?_
              rintro _ w8 ⟨rfl, hi8, hk8⟩
              have HB8 := hid (HB7.out.trans (hk8.below HB7.out.size HFP.out))
              have HA8 := hid (add_any w8 pb bn ba S1 omN hi8 (by decide))
              rw [HR1.out] at HA8
              generalize S1.add omN r = S2 at *
              rw [HOM.out] at HA8
              obtain ⟨a2, HA2⟩ : ∃ a2, Hid (a2 = x + r) := ⟨_, rfl⟩
              rw [← HA2.out] at HA8
              clear hi8 hk8 HD
              go_wp2_with fail
              refine HA8.out.mono ?_
              rintro _ w9 ⟨rfl, hi9, hk9⟩
              have HB9 := hid (HB8.out.trans (hk9.below HB8.out.size HFP.out))
              have HA9 := hid (add_any w9 pb bn ba S2 tmN hi9 (by decide))
              rw [HR2.out, HTM.out] at HA9
              clear hi9 hk9 HA8
              go_wp2_with fail
              refine HA9.out.mono ?_
              rintro _ w10 ⟨rfl, -, hk10⟩
              have HB10 := hid (HB9.out.trans (hk10.below HB9.out.size HFP.out))
              obtain ⟨d0, d1⟩ := HCX.out w10 HB10.out
              have HS10 := HSZ w10
              clear hk10 HA9
              go_upto_region 27 with fail
              go_wp2_with fail
              refine HS10.out.mono ?_
              rintro _ w11 ⟨rfl, hb11⟩
              have HB11 := hid (HB0.out.trans ((HB10.out.trans (hb11.mono HB10.out.size)).mono HB0.out.size))
              clear hb11 HS10 d0 d1
              by_cases g : nl < z - 3
              · have g' : (nl : Int) < (z : Int) - 3 := by omega
                go_wp2_with fail
                go_ret
                exact ⟨rfl, HB11.out⟩
              · have g' : ¬ (nl : Int) < (z : Int) - 3 := by omega
                have he : a1 = a2 := by have := HR3.out (by omega); have := HA1.out; have := HA2.out; omega
                have hee : ((a1 : Int) == (a2 : Int)) = true := by simp [he]
                go_wp2_with fail
                go_ret
                exact ⟨rfl, HB11.out⟩
end Go.Proofs.Ytjilahbkolcekab
