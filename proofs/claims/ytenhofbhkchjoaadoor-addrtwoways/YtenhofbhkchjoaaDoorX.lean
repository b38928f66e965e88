import Derived.Test.YtenhofbhkchjoaaDoorV
import Derived.Deep.DeepCutAuto
namespace Go.Proofs.YtenhofbhkchjoaaDoor
open Go.ChangeShapes Go.WideShapes Go.ChangeAt Go.RowKit
set_option maxHeartbeats 400000

set_option maxHeartbeats 4000000 in
set_option maxRecDepth 100000 in
theorem again_any (t : ByteArray) (w : World) (hs : t.size ≤ maxLen) (ht : Tab w) :
    Calls Tryd.prog 12 #[.string t] w fun e w' => e = .returned (.bool true) ∧ Below w.heap.size w w' := by
  have HTB := hid ht
  have HS := hid hs
  obtain ⟨a, e1, hA, ha, cA⟩ := read_a t
  obtain ⟨x, n, e2, s2, f2, hP, hx, hF, cP⟩ := read_p t
  have HA := hid hA
  have HP := hid hP
  have HF := hid hF
  clear ht hA hP hF hs
  have CA := hid cA
  have CP := hid cP
  clear cA cP
  go_enter Tryd.func12, Tryd.ntmps12
  go_wp2_with fail
  refine (parse_any t _ HS.out).mono ?_
  rintro e w1 ⟨rfl, rfl⟩
  rw [HA.out]
  go_wp2_with fail
  refine (format_any a ha _ HTB.out).mono ?_
  rintro e w2 ⟨rfl, hb2⟩
  generalize fmtA a = s1 at CA ⊢
  go_upto_region 3 with fail
  go_cut [25] from 12 (fun s wx => s = .bool false ∧ wx = w2)
  case first =>
    rcases CA.out with q1 | ⟨rfl, rfl⟩
    · go_wp2_with fail
      go_meet
      case rel => exact ⟨rfl, rfl⟩
    · go_wp2_with fail
      go_meet
      case rel => exact ⟨rfl, rfl⟩
  case rest =>
    obtain ⟨rfl, rfl⟩ := hcut
    clear CA
    go_wp2_with fail
    refine (parsePrefix_any t _ HS.out).mono ?_
    rintro e w3 ⟨rfl, hb3⟩
    rw [HP.out]
    have hb03 := hb2.trans (hb3.mono hb2.size)
    have hb03a : Below w1.heap.size w1 (w3.alloc (.cells #[.int .u32 (x : Int), .int .i64 n] 28)) := hb03.alloc hb03.size _
    go_wp2_with fail
    refine (formatPrefix_any x n hx _ (HTB.out.below hb03a)).mono ?_
    rintro e w4 ⟨rfl, hb4⟩
    rw [HF.out]
    have hb04 := hb03a.trans (hb4.mono hb03a.size)
    clear HP HF
    go_upto_region 7 with fail
    go_cut [46] from 12 (fun s wx => s = .bool false ∧ wx = w4)
    case first =>
      rcases CP.out with q2 | ⟨rfl, rfl, rfl⟩
      · go_wp2_with fail
        go_meet
        case rel => exact ⟨rfl, rfl⟩
      · go_wp2_with fail
        go_meet
        case rel => exact ⟨rfl, rfl⟩
    case rest =>
      obtain ⟨rfl, rfl⟩ := hcut
      clear CP
      go_wp2_with fail
      refine (parseMAC_any t _).mono ?_
      rintro e w5 ⟨rfl, hb5⟩
      have hb05 := hb04.trans (hb5.mono hb04.size)
      by_cases hM : t.size = 17 ∧ okM t = true
      · have HM : Hid (ansM t = macV (bt t 0) (bt t 1) (bt t 2) (bt t 3) (bt t 4) (bt t 5)) := if_pos hM
        have HK := hid hM.2
        have HZ := hid hM.1
        clear hM
        rw [HM.out]
        unfold macV
        have hb05a : Below w1.heap.size w1 (w5.alloc (.cells #[.int .u8 (bt t 0), .int .u8 (bt t 1), .int .u8 (bt t 2), .int .u8 (bt t 3), .int .u8 (bt t 4), .int .u8 (bt t 5)] 30)) := hb05.alloc hb05.size _
        go_wp2_with fail
        refine (formatMAC_any (bt t 0) (bt t 1) (bt t 2) (bt t 3) (bt t 4) (bt t 5) (bt t) (fun k _ => bt_lt t k) rfl rfl rfl rfl rfl rfl _).mono ?_
        rintro e w6 ⟨rfl, hb6⟩
        have hb06 := hb05a.trans (hb6.mono hb05a.size)
        have HLow : Hid (∀ k (h1 : k < t.size) (h2 : k < (⟨(mac (bt t) 6).toArray⟩ : ByteArray).size), ((⟨(mac (bt t) 6).toArray⟩ : ByteArray)[k]'h2).toNat = low (t[k]'h1).toNat) := by
          intro k h1 h2
          rw [← gb_at t k h1, ← low_mac t HK.out k (by have := HZ.out; omega), ← gb_at _ k h2]; rfl
        have hz7 : Hid ((⟨(mac (bt t) 6).toArray⟩ : ByteArray).size = 17) := by rw [mac_list]; rfl
        generalize (⟨(mac (bt t) 6).toArray⟩ : ByteArray) = s7 at HLow hz7 ⊢
        generalize bt t 0 = b0
        generalize bt t 1 = b1
        generalize bt t 2 = b2
        generalize bt t 3 = b3
        generalize bt t 4 = b4
        generalize bt t 5 = b5
        have hq : ((s7.size : Int) != (t.size : Int)) = false := by rw [hz7.out, HZ.out]; rfl
        go_wp2_with fail
        clear hq
        obtain ⟨n7, hn7⟩ : ∃ n7, n7 = t.size := ⟨_, rfl⟩
        have hn17 : n7 ≤ 17 := by have := HZ.out; omega
        have HN7 := hid hn7
        clear hn7
        go_loopw [10] (fun i wr => ∃ k : Nat, i = .int .i64 k ∧ k ≤ n7 ∧ wr = w6) (fun i _ => n7 - (intOf i).toNat)
        case atStart => exact ⟨0, rfl, by omega, rfl⟩
        case round =>
          obtain ⟨k, rfl, hk, rfl⟩ := hrel
          by_cases hk17 : k < n7
          · have hkt : k < t.size := by have := HN7.out; omega
            have hks : k < s7.size := by have := HN7.out; have := HZ.out; have := hz7.out; omega
            have hl := HLow.out k hkt hks
            unfold low at hl
            by_cases hc1 : 65 ≤ (t[k]'hkt).toNat
            · by_cases hc2 : (t[k]'hkt).toNat ≤ 70
              · rw [if_pos ⟨hc1, hc2⟩] at hl
                have hg : ((((t[k]'hkt).toNat : Int) + 32) != ((s7[k]'hks).toNat : Int)) = false := by rw [hl]; simp
                have d1 : (65 : Int) ≤ ((t[k]'hkt).toNat : Int) := by omega
                have d2 : ((t[k]'hkt).toNat : Int) ≤ 70 := by omega
                clear hl
                go_wp2_with fail
                go_roundw
                case rel => exact ⟨k + 1, by go_num, by omega, by first | rfl | trivial⟩
                case measure => simp [intOf]; omega
              · rw [if_neg (by omega)] at hl
                have hg : ((((t[k]'hkt).toNat : Int)) != ((s7[k]'hks).toNat : Int)) = false := by rw [hl]; simp
                have d1 : (65 : Int) ≤ ((t[k]'hkt).toNat : Int) := by omega
                have d2 : ¬ ((t[k]'hkt).toNat : Int) ≤ 70 := by omega
                clear hl
                go_wp2_with fail
                go_roundw
                case rel => exact ⟨k + 1, by go_num, by omega, by first | rfl | trivial⟩
                case measure => simp [intOf]; omega
            · rw [if_neg (by omega)] at hl
              have hg : ((((t[k]'hkt).toNat : Int)) != ((s7[k]'hks).toNat : Int)) = false := by rw [hl]; simp
              have d1 : ¬ (65 : Int) ≤ ((t[k]'hkt).toNat : Int) := by omega
              clear hl
              go_wp2_with fail
              go_roundw
              case rel => exact ⟨k + 1, by go_num, by omega, by first | rfl | trivial⟩
              case measure => simp [intOf]; omega
          · have hkt : ¬ (k : Int) < t.size := by have := HN7.out; omega
            go_wp2_with fail
            go_ret
            exact ⟨rfl, hb06⟩
      · have HM : Hid (ansM t = macZ) := if_neg hM
        rw [HM.out]
        unfold macZ
        clear hM
        go_wp2_with fail
        go_ret
        exact ⟨rfl, hb05.alloc hb05.size _⟩
end Go.Proofs.YtenhofbhkchjoaaDoor
