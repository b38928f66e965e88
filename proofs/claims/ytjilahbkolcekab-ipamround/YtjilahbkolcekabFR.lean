/-
  IpamRound: the walk.
-/
import Derived.Test.YtjilahbkolcekabFQ
namespace Go.Proofs.Ytjilahbkolcekab
open Go.ChangeShapes Go.WideShapes Go.ChangeAt Go.RowKit Go.Maps Tri
set_option maxHeartbeats 8000000
set_option maxRecDepth 100000

theorem fil_rnd (b z k : Nat) : fil b z k = rnd b z k (k + 1) := rfl

theorem round_walk (x : Nat) (y : Int) (keep rounds : Int) (w : World) (hx : x < 4294967296) (hk1 : -9223372036854775808 ≤ keep) (hk2 : keep ≤ 9223372036854775807) (_hr1 : -9223372036854775808 ≤ rounds) (_hr2 : rounds ≤ 9223372036854775807) :
    Calls Try.prog 5 #[.agg #[.int .u32 (x : Int), .int .i64 y], .int .i64 keep, .int .i64 rounds] w fun e w' => e = .returned (.bool true) ∧ Below w.heap.size w w' := by
  obtain ⟨wa, HWA⟩ : ∃ wa, Hid (wa = w.alloc (.cells #[.int .u32 (x : Int), .int .i64 y] 25)) := ⟨_, rfl⟩
  have HB0 : Hid (Below w.heap.size w wa) := by unfold Hid; rw [HWA.out]; exact (Below.refl _ _).alloc (Nat.le_refl _) _
  have R1 : Hid (wa.heap[w.heap.size]? = some (.cells #[.int .u32 (x : Int), .int .i64 y] 25)) := by unfold Hid; rw [HWA.out]; exact heap_alloc_new w _
  obtain ⟨q0, q1⟩ := Beh.two R1.out
  have c0 := q0 ⟨wa, Below.refl _ _⟩
  have c1 := q1 ⟨wa, Below.refl _ _⟩
  simp only at c0 c1
  have HCX : Hid (∀ u : World, Below wa.heap.size wa u → u.cell? ⟨w.heap.size, 0, none⟩ = some (.int .u32 (x : Int)) ∧ u.cell? ⟨w.heap.size, 1, none⟩ = some (.int .i64 y)) := fun u hu => ⟨q0 ⟨u, hu⟩, q1 ⟨u, hu⟩⟩
  have HMY := hid (may_any x y wa hx)
  obtain ⟨R, HR⟩ : ∃ R, Hid (R = decide (nwB x y = false ∨ y < 22 ∨ keep < 0 ∨ rounds < 0 ∨ 3000 < rounds)) := ⟨_, rfl⟩
  clear q0 q1
  go_enter Try.func5, Try.ntmps5
  go_upto_region 1 with fail
  rw [← HWA.out]
  go_cut [39] from 20 to 39 (fun r wx => r = .bool R ∧ Hid (Below wa.heap.size wa wx))
  case first =>
    cases hnb : nwB x y with
    | false =>
      have HE : Hid (R = true) := by unfold Hid; rw [HR.out, decide_eq_true_eq]; exact .inl hnb
      rw [hnb] at HMY
      go_wp2_with fail
      refine HMY.out.mono ?_
      rintro _ w1 ⟨rfl, hb1⟩
      have HB1 := hid hb1
      clear hb1 c0 c1
      go_wp2_with fail
      go_meet
      exact ⟨by rw [HE.out], HB1⟩
    | true =>
      rw [hnb] at HMY
      go_wp2_with fail
      refine HMY.out.mono ?_
      rintro _ w1 ⟨rfl, hb1⟩
      obtain ⟨d0, d1⟩ := HCX.out w1 hb1
      have HB1 := hid hb1
      clear hb1 c0 c1
      by_cases g1 : y < 22
      · have HE : Hid (R = true) := by unfold Hid; rw [HR.out, decide_eq_true_eq]; omega
        clear HR
        go_wp2_with fail
        go_meet
        exact ⟨by rw [HE.out], HB1⟩
      · by_cases g2 : keep < 0
        · have HE : Hid (R = true) := by unfold Hid; rw [HR.out, decide_eq_true_eq]; omega
          clear HR
          go_wp2_with fail
          go_meet
          exact ⟨by rw [HE.out], HB1⟩
        · by_cases g3 : rounds < 0
          · have HE : Hid (R = true) := by unfold Hid; rw [HR.out, decide_eq_true_eq]; omega
            clear HR
            go_wp2_with fail
            go_meet
            exact ⟨by rw [HE.out], HB1⟩
          · by_cases g4 : 3000 < rounds
            · have HE : Hid (R = true) := by unfold Hid; rw [HR.out, decide_eq_true_eq]; omega
              clear HR
              go_wp2_with fail
              go_meet
              exact ⟨by rw [HE.out], HB1⟩
            · have HE : Hid (R = false) := by unfold Hid; rw [HR.out, decide_eq_false_iff_not, hnb]; simp; omega
              clear HR
              go_wp2_with fail
              go_meet
              exact ⟨by rw [HE.out]; congr 1; simp; omega, HB1⟩
  case rest =>
    obtain ⟨rfl, HB1⟩ := hcut
    clear c0 c1 HMY
    cases R with
    | true =>
      have HF := hid (first_any wc)
      go_wp2_with fail
      refine HF.out.mono ?_
      rintro _ w2 ⟨rfl, hb2⟩
      have HB2 := hid (HB0.out.trans ((HB1.out.trans (hb2.mono HB1.out.size)).mono HB0.out.size))
      clear hb2 HF
      go_wp2_with fail
      go_ret
      exact ⟨rfl, HB2.out⟩
    | false =>
      have hall := of_decide_eq_false HR.out.symm
      have HNB : Hid (nwB x y = true) := by
        cases h : nwB x y with
        | true => rfl
        | false => exact absurd (.inl h) hall
      obtain ⟨n, rfl, hn1, hn30, hn22⟩ : ∃ n : Nat, y = (n : Int) ∧ 1 ≤ n ∧ n ≤ 30 ∧ 22 ≤ n := by
        have h := HNB.out
        unfold nwB at h
        rw [decide_eq_true_eq] at h
        exact ⟨y.toNat, by omega, by omega, by omega, by omega⟩
      obtain ⟨kp, rfl⟩ : ∃ kp : Nat, keep = (kp : Int) := ⟨keep.toNat, by omega⟩
      obtain ⟨rs, rfl⟩ : ∃ rs : Nat, rounds = (rs : Int) := ⟨rounds.toNat, by omega⟩
      have hrs : rs ≤ 3000 := by omega
      clear HR hall
      obtain ⟨z, HZ⟩ : ∃ z, Hid (z = 2 ^ (32 - n)) := ⟨2 ^ (32 - n), hid rfl⟩
      have hz4 : 4 ≤ z := by rw [HZ.out]; exact pow_lo hn30
      have hz31 : z ≤ 2147483648 := by rw [HZ.out]; exact pow_hi hn1
      have HXZ : Hid (x + z ≤ 4294967296) := by
        have := (new_ok hx HNB.out).be
        unfold Ist.new at this
        simp only [Int.toNat_natCast] at this
        unfold Hid; rw [HZ.out]; exact this
      have HSZ : ∀ u : World, Hid (Calls Try.prog 16 #[.agg #[.int .u32 (x : Int), .int .i64 (n : Int)]] u fun e w' => e = .returned (.int .i64 (z : Int)) ∧ Below u.heap.size u w') := fun u => by
        rw [HZ.out]; exact size_any x n u hn1 hn30
      obtain ⟨m, HM⟩ : ∃ m, Hid (m = min (z - 3) 1024) := ⟨_, rfl⟩
      have hm1 : 1 ≤ m := by rw [HM.out]; omega
      have hm2 : m ≤ 1024 := by rw [HM.out]; omega
      have hm3 : m + 3 ≤ z := by rw [HM.out]; omega
      obtain ⟨d0, d1⟩ := HCX.out wc HB1.out
      have HN := hid (new_any x (n : Int) wc hx)
      go_wp2_with fail
      refine HN.out.mono ?_
      rintro _ w2 (⟨hb, rfl, hb2⟩ | ⟨hb, pb, bn, ba, rfl, hi2, hk2, hb2⟩)
      · rw [HNB.out] at hb; cases hb
      · have HF := hid (first_any w2)
        have HB2 := hid (HB1.out.trans (hb2.mono HB1.out.size))
        have HFP : Hid (∀ k, fpI pb bn ba k → wa.heap.size ≤ k) := fun k hk => Nat.le_trans HB1.out.size (hk2 k hk)
        have HI2 : Hid (IpAt w2 pb bn ba (fil x z 0)) := by rw [fil_new, ← HZ.out] at hi2; exact hi2
        clear d0 d1 hb hb2 HN hi2 hk2
        go_wp2_with fail
        refine HF.out.mono ?_
        rintro _ w3 ⟨rfl, hb3⟩
        have HB3 := hid (HB2.out.trans (hb3.mono HB2.out.size))
        have HI3 := hid (HI2.out.below hb3)
        obtain ⟨d0, d1⟩ := HCX.out w3 HB3.out
        have HS3 := HSZ w3
        clear hb3 HF HB2 HI2
        go_wp2_with fail
        refine HS3.out.mono ?_
        rintro _ w4 ⟨rfl, hb4⟩
        have HB4 := hid (HB3.out.trans (hb4.mono HB3.out.size))
        have HI4 := hid (HI3.out.below hb4)
        clear hb4 HS3 HB3 HI3 d0 d1
        go_upto_if 60 with fail
        go_cut [9] from 60 to 60 (fun r wx => r = .int .i64 (m : Int) ∧ wx = w4)
        case first =>
          by_cases g : 1024 < z - 3
          · have g' : (1024 : Int) < (z : Int) - 3 := by omega
            have HE : Hid (m = 1024) := by unfold Hid; rw [HM.out]; omega
            go_wp2_with fail
            go_meet
            exact ⟨by rw [HE.out]; rfl, rfl⟩
          · have g' : ¬ (1024 : Int) < (z : Int) - 3 := by omega
            have HE : Hid ((m : Int) = (z : Int) - 3) := by have := HM.out; unfold Hid; omega
            go_wp2_with fail
            go_meet
            exact ⟨by rw [HE.out], rfl⟩
        case rest =>
          obtain ⟨rfl, ew⟩ := hcut
          obtain rfl := ew.symm
          clear ew
          obtain ⟨k, HK⟩ : ∃ k, Hid (k = kp % m) := ⟨_, rfl⟩
          have hkm : k < m := by rw [HK.out]; exact Nat.mod_lt _ (by omega)
          have hem : (kp : Int) % (m : Int) = (k : Int) := by rw [HK.out]; rfl
          have htm : Int.tmod (kp : Int) (m : Int) = (k : Int) := by rw [HK.out, ← Int.ofNat_tmod]
          have hnz : ¬ (m : Int) = 0 := by omega
          clear HK
          go_upto_region 11 with fail
          clear hem htm
          go_loopw [10] (fun i wr => ∃ j : Nat, i = .int .i64 (j : Int) ∧ j ≤ k ∧ Hid (IpAt wr pb bn ba (fil x z j)) ∧ Hid (Below wa.heap.size wa wr)) (fun i _ => k - (intOf i).toNat)
          case atStart => exact ⟨0, rfl, Nat.zero_le _, HI4, HB4⟩
          case round =>
            obtain ⟨j, rfl, hj, HI, HB⟩ := hrel
            by_cases hlt : j < k
            · have hlt' : (j : Int) < (k : Int) := int_lt hlt
              have HNA := hid (name_any j wr (by omega))
              have HAD := hid (fil_add (b := x) (z := z) (i := j) (by omega) (by omega))
              go_wp2_with fail
              refine HNA.out.mono ?_
              rintro _ w5 ⟨rfl, hb5⟩
              have HI5 := hid (HI.out.below hb5)
              have HB5 := hid (HB.out.trans (hb5.mono HB.out.size))
              have HA := hid (add_any w5 pb bn ba (fil x z j) (nmN j) HI5.out (by rw [nmN_size]; unfold maxLen; omega))
              rw [HAD.out] at HA
              clear hb5 HNA HAD
              generalize nmN j = nm at *
              obtain ⟨aa, HAA⟩ : ∃ aa, Hid (aa = x + (j + 2)) := ⟨_, rfl⟩
              rw [← HAA.out] at HA
              go_wp2_with fail
              refine HA.out.mono ?_
              rintro _ w6 ⟨rfl, hi6, hk6⟩
              have HI6 := hid hi6
              have HB6 := hid (HB5.out.trans (hk6.below HB5.out.size HFP.out))
              obtain ⟨d0, d1⟩ := HCX.out w6 HB6.out
              have e1 : (aa : Int) = (x : Int) + 2 + (j : Int) := by have := HAA.out; omega
              have e2 : ((aa : Int) != (x : Int) + 2 + (j : Int)) = false := by simp; omega
              have haa : aa < 4294967296 := by have := HAA.out; have := HXZ.out; omega
              have HE1 := hid e1
              clear hi6 hk6 HA e1
              go_wp2_with fail
              go_roundw
              case rel => exact ⟨j + 1, by go_num, hlt, HI6, HB6⟩
              case measure => simp [intOf]; omega
            · have hlt' : ¬ (j : Int) < (k : Int) := int_nlt hlt
              have hjk : j = k := by omega
              subst hjk
              obtain ⟨d0, d1⟩ := HCX.out wr HB.out
              have HS5 := HSZ wr
              go_wp2_with fail
              refine HS5.out.mono ?_
              rintro _ w5 ⟨rfl, hb5⟩
              have HI5 := hid (HI.out.below hb5)
              have HB5 := hid (HB.out.trans (hb5.mono HB.out.size))
              clear hb5 HS5 d0 d1
              obtain ⟨fr, HFR⟩ : ∃ fr : Nat, Hid (fr = z - 3 - j) := ⟨_, rfl⟩
              have hfr : (z : Int) - 3 - (j : Int) = (fr : Int) := by have := HFR.out; omega
              have hfr1 : 1 ≤ fr := by have := HFR.out; omega
              go_upto_region 18 with fail
              try rw [hfr]
              clear hfr
              have HXN : Hid (xN = ⟨#[120]⟩) := rfl
              go_loopw [14] (fun i wr => ∃ (t p : Nat), i = .int .i64 (t : Int) ∧ t ≤ rs ∧ Hid (IpAt wr pb bn ba (rnd x z j p)) ∧ Hid (j + 1 ≤ p ∧ p + 2 ≤ z ∧ nxt z j p = 2 + j + t % (z - 3 - j)) ∧ Hid (Below wa.heap.size wa wr)) (fun i _ => rs - (intOf i).toNat)
              case atStart =>
                refine ⟨0, j + 1, rfl, Nat.zero_le _, HI5, ⟨Nat.le_refl _, by omega, ?_⟩, HB5⟩
                unfold nxt
                rw [Nat.zero_mod]
                split <;> omega
              case round =>
                obtain ⟨t, p, rfl, htr, HI, HP, HB⟩ := hrel
                by_cases hlt : t < rs
                · have hlt' : (t : Int) < (rs : Int) := int_lt hlt
                  obtain ⟨q, HQ⟩ : ∃ q, Hid (q = t % fr) := ⟨_, rfl⟩
                  have hq : q < fr := by rw [HQ.out]; exact Nat.mod_lt _ (by omega)
                  obtain ⟨p2, HP2⟩ : ∃ p2, Hid (p2 = nxt z j p) := ⟨_, rfl⟩
                  have HPE : Hid (p2 = 2 + j + q) := by unfold Hid; rw [HP2.out, HP.out.2.2, HQ.out, HFR.out]
                  have HA := hid (add_any wr pb bn ba (rnd x z j p) xN HI.out (by decide))
                  rw [rnd_add (by omega) (by omega) HP.out.1 HP.out.2.1, ← HP2.out] at HA
                  have HD2 := hid (rnd_del (b := x) (z := z) (k := j) (p := p) (r := p2))
                  have HNX : Hid (j + 1 ≤ p2 ∧ p2 + 2 ≤ z ∧ nxt z j p2 = 2 + j + (t + 1) % (z - 3 - j)) := by
                    have h1 := HFR.out
                    have h2 := HPE.out
                    refine ⟨by omega, by omega, ?_⟩
                    rw [HPE.out, HQ.out, HFR.out]; exact nxt_step (by omega)
                  generalize (rnd x z j p).add xN p2 = S1 at *
                  obtain ⟨aa, HAA⟩ : ∃ aa, Hid (aa = x + p2) := ⟨_, rfl⟩
                  rw [← HAA.out] at HD2
                  have HA' : Hid (Calls Try.prog 17 #[.pointer (some ⟨pb, 0, none⟩), .string ⟨#[120]⟩] wr fun e w' => e = .returned (.tuple #[.int .u32 (aa : Int), .int .i64 0]) ∧ IpAt w' pb bn ba S1 ∧ Keeps (fpI pb bn ba) wr w') := by
                    have := HA.out
                    rw [HXN.out] at this
                    rw [HAA.out]; exact this
                  clear HA
                  go_wp2_with fail
                  refine HA'.out.mono ?_
                  rintro _ w6 ⟨rfl, hi6, hk6⟩
                  have HB6 := hid (HB.out.trans (hk6.below HB.out.size HFP.out))
                  have HDD := hid (del_any w6 pb bn ba S1 xN hi6 (by decide))
                  rw [HD2.out, HXN.out] at HDD
                  clear hi6 hk6 HA'
                  go_wp2_with fail
                  refine HDD.out.mono ?_
                  rintro _ w7 ⟨rfl, hi7, hk7⟩
                  have HI7 := hid hi7
                  have HB7 := hid (HB6.out.trans (hk7.below HB6.out.size HFP.out))
                  have k0 : ∀ u : Beh w7, u.wd.cell? ⟨w.heap.size, 0, none⟩ = some (.int .u32 (x : Int)) := fun u => (HCX.out u.wd (HB7.out.trans (u.ok.mono HB7.out.size))).1
                  have hxz := HXZ.out
                  have hfe := HFR.out
                  have h22a : IntKind.i64.wrap (x : Int) = (x : Int) := by rw [IntKind.wrap_i64]; omega
                  have h22b : IntKind.i64.wrap ((x : Int) + 2) = (x : Int) + 2 := by rw [IntKind.wrap_i64]; omega
                  have h22c : IntKind.i64.wrap ((x : Int) + 2 + (j : Int)) = (x : Int) + 2 + (j : Int) := by rw [IntKind.wrap_i64]; omega
                  have h22d : Int.tmod (t : Int) (fr : Int) = (q : Int) := by rw [HQ.out, ← Int.ofNat_tmod]
                  have h22f : ¬ (fr : Int) = 0 := by omega
                  have h22g : ((fr : Int) == 0) = false := by simp; omega
                  have h22e : IntKind.i64.wrap ((x : Int) + 2 + (j : Int) + (q : Int)) = (x : Int) + 2 + (j : Int) + (q : Int) := by rw [IntKind.wrap_i64]; omega
                  have haa : aa < 4294967296 := by have := HAA.out; have := HPE.out; omega
                  have e1 : (aa : Int) = (x : Int) + 2 + (j : Int) + (q : Int) := by have := HAA.out; have := HPE.out; omega
                  have e2 : ((aa : Int) != (x : Int) + 2 + (j : Int) + (q : Int)) = false := by simp [e1]
                  have HE2 := hid e2
                  clear hi7 hk7 HDD e1 hfe e2
                  go_upto_region 22 with fail
                  refine wp_region_beh (by kernel_rfl) (by kernel_rfl) ?_
                  repeat (go_big_quiet_step (fail))
                  refine wpQuiet_nil ?_
                  rintro _ ⟨u, rfl⟩
                  have HBu := hid (HB7.out.trans (u.ok.mono HB7.out.size))
                  have HIu := hid (HI7.out.below u.ok)
                  have e2 := HE2.out
                  clear k0
                  go_wp2_with fail
                  go_roundw
                  case rel => exact ⟨t + 1, p2, by go_num, hlt, HIu, HNX, HBu⟩
                  case measure => simp [intOf]; omega
                · have hlt' : ¬ (t : Int) < (rs : Int) := int_nlt hlt
                  have HBE := hid (HB0.out.trans (HB.out.mono HB0.out.size))
                  go_wp2_with fail
                  go_ret
                  exact ⟨rfl, HBE.out⟩
end Go.Proofs.Ytjilahbkolcekab
