import Derived.Test.YtjjmopmdiflffaaE
namespace Go.Proofs.Ytjjmopmdiflffaa
open Go.ChangeShapes Go.WideShapes Go.ChangeAt Go.RowKit
set_option maxHeartbeats 400000
set_option maxRecDepth 100000

set_option maxHeartbeats 2000000 in
theorem adjustSum_walk (v : Value) (L : List Nat) (at0 : Int) (n0 : Nat) (w : World) (hv : SeesB w v L) (hl : L.length ≤ 140737488351232) (ha : -9223372036854775808 ≤ at0 ∧ at0 ≤ 9223372036854775807) (hn0 : n0 < 65536) :
    Calls Try.prog 4 #[v, .int .i64 at0, .int .u16 (n0 : Int)] w fun e w' => e = .returned (.bool true) ∧ Below w.heap.size w w' := by
  have HA0 : Hid (∀ u, Calls Try.prog 11 #[.int .u16 4660, .int .u16 16390, .int .u16 16134] u fun e w' => e = .returned (.int .u16 4916) ∧ u = w') := fun u => by
    have h := adjust_code 4660 16390 16134 u (by decide) (by decide) (by decide)
    rw [show M.adj 4660 16390 16134 = 4916 by decide] at h
    exact h.mono fun _ _ ⟨he, hw⟩ => ⟨he, hw.symm⟩
  have HCL := hid (clone_any v L w hv (by omega))
  have HBY := hid hv.bytes
  have HL := hid hl
  obtain ⟨a1, a2⟩ := ha
  obtain ⟨hi, hhi⟩ : ∃ hi, hi = n0 / 256 := ⟨_, rfl⟩
  obtain ⟨lo, hlo⟩ : ∃ lo, lo = n0 % 256 := ⟨_, rfl⟩
  have ehi : (n0 : Int) / 256 = (hi : Int) := by omega
  have elo : (n0 : Int) % 256 = (lo : Int) := by omega
  have HHL : Hid (256 * hi + lo = n0) := by unfold Hid; omega
  have hhi1 : hi < 256 := by omega
  have hlo1 : lo < 256 := by omega
  obtain ⟨ao, n, cap, rfl, HN, hn1, hn2⟩ := hv.shape
  clear hhi hlo hv hl
  go_enter Try.func4, Try.ntmps4
  go_wp2_with fail
  refine (HA0.out _).mono ?_
  rintro _ _ ⟨rfl, rfl⟩
  go_wp2_with fail
  refine HCL.out.mono ?_
  rintro _ w1 ⟨v1, rfl, hO1, hb1⟩
  have hs1 := hO1.sees HBY.out
  obtain ⟨ac, nc, capc, rfl, HNC, hc1, hc2⟩ := hs1.shape
  unfold maxLen at hc2
  have hncl : nc ≤ 140737488351232 := by have := HNC.out; have := HL.out; omega
  have HO1 := hid hO1
  clear hs1 hO1 HCL
  go_upto_if 20 with fail
  go_cut [7] from 13 (fun q wx => ∃ C, Hid (OwnB wx w.heap.size q C) ∧ Hid (C.length % 2 = 0 ∧ C.length ≤ 140737488355328 ∧ ∀ x ∈ C, x < 256) ∧ Below w.heap.size w wx)
  case first =>
    by_cases hp : nc % 2 = 1
    · have hq : ((nc : Int) % 2 == 1) = true := by simp; omega
      have HR : Hid ((L ++ [0]).length % 2 = 0 ∧ (L ++ [0]).length ≤ 140737488355328 ∧ ∀ x ∈ L ++ [0], x < 256) := by
        have h1 := HNC.out
        have h2 := HL.out
        refine ⟨by rw [List.length_append]; simp; omega, by rw [List.length_append]; simp; omega, fun x hx => ?_⟩
        rcases List.mem_append.1 hx with hx | hx
        · exact HBY.out x hx
        · simp at hx; omega
      clear hp
      go_wp2_with (at_builtin; refine wpList_append_bytes rfl _ _ rfl w.heap.size _ _ rfl (HO1.out.alloc _) _ [0] rfl (sees_one rfl 0 (by decide) _) ?c1 ?c2 ?_)
      case c1 => have := HL.out; simp; omega
      case c2 => have := hb1.size; simp; omega
      intro v' w2 ho hb2
      have HO2 := hid ho
      have hb3 := (hb1.alloc hb1.size _).trans hb2
      clear ho hb2
      go_wp2_with fail
      go_meet
      case rel => exact ⟨L ++ [0], HO2, HR, hb3⟩
    · have hq : ((nc : Int) % 2 == 1) = false := by simp; omega
      have HR : Hid (L.length % 2 = 0 ∧ L.length ≤ 140737488355328 ∧ ∀ x ∈ L, x < 256) := by
        have h1 := HNC.out
        have h2 := HL.out
        exact ⟨by omega, by omega, HBY.out⟩
      clear hp
      go_wp2_with fail
      go_meet
      case rel => exact ⟨L, HO1, HR, hb1⟩
  case rest =>
    obtain ⟨C, HO, HC, hb⟩ := hcut
    clear HO1 HNC hc1 hc2 hncl hb1
    have hs := HO.out.sees HC.out.2.2
    by_cases hCe : C = []
    · obtain ⟨a2, n2, cap2, rfl, HN2, _, _⟩ := hs.shape
      obtain rfl : n2 = 0 := by have := HN2.out; rw [hCe] at this; simpa using this
      go_wp2_with fail
      go_ret
      exact ⟨rfl, hb⟩
    · obtain ⟨g, m, capm, rfl, HM, hbg, hm1, hm2, hfz⟩ := HO.out.grip hCe
      unfold maxLen at hm2
      have hm0 : 2 ≤ m := by
        have h1 := HM.out
        have h2 := HC.out.1
        have h3 : 0 < C.length := List.length_pos_iff.2 hCe
        omega
      have hmb : m ≤ 140737488355328 := by have := HM.out; have := HC.out.2.1; omega
      have hq0 : ((m : Int) == 0) = false := by simp; omega
      have HME : Hid (m % 2 = 0) := by have := HM.out; have := HC.out.1; unfold Hid; omega
      clear hCe hs hfz
      go_upto_if 28 with fail
      go_cut [1] from 13 (fun q wx => ∃ k0 : Nat, q = .int .i64 (k0 : Int) ∧ k0 ≤ 9223372036854775807 ∧ Hid (OwnB wx w.heap.size (.slice (some ⟨g, 0, none⟩) m capm) C) ∧ Below w.heap.size w wx)
      case first =>
        by_cases hneg : at0 < 0
        · obtain ⟨k0, hk0⟩ : ∃ k0 : Nat, -(at0 + 1) = (k0 : Int) := ⟨(-(at0 + 1)).toNat, by omega⟩
          have HK := hid hk0
          have hk1 : k0 ≤ 9223372036854775807 := by omega
          clear hk0
          go_wp2_with fail
          go_meet
          case rel => exact ⟨k0, by rw [← HK.out], hk1, HO, hb⟩
        · obtain ⟨k0, hk0⟩ : ∃ k0 : Nat, at0 = (k0 : Int) := ⟨at0.toNat, by omega⟩
          have HK := hid hk0
          have hk1 : k0 ≤ 9223372036854775807 := by omega
          clear hk0
          go_wp2_with fail
          go_meet
          case rel => exact ⟨k0, by rw [HK.out], hk1, HO, hb⟩
      case rest =>
        clear HO hb
        obtain ⟨k0, rfl, hk0, HO, hb⟩ := hcut
        obtain ⟨r, hr⟩ : ∃ r, r = k0 % m := ⟨_, rfl⟩
        have hrm : r < m := by rw [hr]; exact Nat.mod_lt _ (by omega)
        have e1 : (k0 : Int) % (m : Int) = (r : Int) := by rw [hr]; simp
        have e1' : (k0 : Int).tmod (m : Int) = (r : Int) := by rw [hr]; rfl
        clear hr
        obtain ⟨z, hz⟩ : ∃ z, z = r % 2 := ⟨_, rfl⟩
        obtain ⟨a, ha⟩ : ∃ a, a = r - z := ⟨_, rfl⟩
        have e2 : (r : Int) % 2 = (z : Int) := by omega
        have e3 : (r : Int) - (z : Int) = (a : Int) := by omega
        have ham : a + 1 < m := by have := HME.out; omega
        have HA2 : Hid (a % 2 = 0) := by unfold Hid; omega
        clear hz ha
        obtain ⟨P, x, y, R, hC, hP⟩ := M.parts C a (by have := HM.out; omega)
        have hx : x < 256 := HC.out.2.2 x (by rw [hC]; simp)
        have hy : y < 256 := HC.out.2.2 y (by rw [hC]; simp)
        obtain ⟨old, hold⟩ : ∃ old, old = 256 * x + y := ⟨_, rfl⟩
        have hold1 : old < 65536 := by omega
        have HWD : Hid (∀ u, SeesB u (.slice (some ⟨g, 0, none⟩) m capm) C → Calls Try.prog 13 #[.slice (some ⟨g, 0, none⟩) m capm, .int .i64 (a : Int)] u fun e w' => e = .returned (.int .i64 (old : Int)) ∧ u.drew = w') := fun u hu => by
          rw [hold]
          exact (word_x _ (a : Int) a x y C u hu rfl (by rw [hC, List.getElem?_append_right (by omega), hP, Nat.sub_self]; rfl) (by rw [hC, List.getElem?_append_right (by omega), hP, show a + 1 - a = 1 by omega]; rfl) (by omega)).mono fun _ _ ⟨he, hw⟩ => ⟨he, hw.symm⟩
        obtain ⟨C', hC'⟩ : ∃ C', C' = (C.set a hi).set (a + 1) lo := ⟨_, rfl⟩
        have HTT : Hid (M.tot false C' + old = M.tot false C + n0 ∧ old ≤ M.tot false C) := by
          have h1 : C' = P ++ hi :: lo :: R := by rw [hC', hC, ← hP]; exact M.set_two P R x y hi lo
          have h2 := HA2.out
          rw [← hP] at h2
          unfold Hid
          rw [h1, hC, M.tot_two P R hi lo h2, M.tot_two P R x y h2, hold]
          have := HHL.out
          omega
        have HB' : Hid (∀ q ∈ C', q < 256) := fun q hq => by
          rw [hC'] at hq
          rcases List.mem_or_eq_of_mem_set hq with hq | rfl
          · rcases List.mem_or_eq_of_mem_set hq with hq | rfl
            · exact HC.out.2.2 q hq
            · exact hhi1
          · exact hlo1
        have HM' : Hid (m = C'.length) := by unfold Hid; rw [hC', List.length_set, List.length_set]; exact HM.out
        have HCE := hid hC'
        obtain ⟨s, hs⟩ : ∃ s, s = M.csum C := ⟨_, rfl⟩
        have hs1 : s < 65536 := by rw [hs]; exact M.csum_lt C
        obtain ⟨s', hs'⟩ : ∃ s', s' = M.csum C' := ⟨_, rfl⟩
        have hs1' : s' < 65536 := by rw [hs']; exact M.csum_lt C'
        obtain ⟨t, ht⟩ : ∃ t, t = M.adj s old n0 := ⟨_, rfl⟩
        have ht1 : t < 65536 := by rw [ht]; unfold M.adj; omega
        have HAD : Hid (∀ u, Calls Try.prog 11 #[.int .u16 (s : Int), .int .u16 (old : Int), .int .u16 (n0 : Int)] u fun e w' => e = .returned (.int .u16 (t : Int)) ∧ u = w') := fun u => by
          rw [ht]
          exact (adjust_code s old n0 u hs1 hold1 hn0).mono fun _ _ ⟨he, hw⟩ => ⟨he, hw.symm⟩
        have HSM : Hid (∀ u, SeesB u (.slice (some ⟨g, 0, none⟩) m capm) C → Calls Try.prog 10 #[.slice (some ⟨u.heap.size, 0, none⟩) 1 1] (u.alloc (.cells #[.slice (some ⟨g, 0, none⟩) m capm] 24)) fun e w' => e = .returned (.int .u16 (s : Int)) ∧ Below u.heap.size u w') := fun u hu => by
          have h := sum_code _ _ _ (seesBB_one (w := u) rfl _ _ hu 24) (by simp; have := HM.out; omega)
          rw [show [C].flatten = C by simp, ← hs] at h
          exact h.mono fun _ _ ⟨he, hw⟩ => ⟨he, ((Below.refl u.heap.size u).alloc (Nat.le_refl _) _).trans (hw.mono (by simp))⟩
        have HSM' : Hid (∀ u, SeesB u (.slice (some ⟨g, 0, none⟩) m capm) C' → Calls Try.prog 10 #[.slice (some ⟨u.heap.size, 0, none⟩) 1 1] (u.alloc (.cells #[.slice (some ⟨g, 0, none⟩) m capm] 24)) fun e w' => e = .returned (.int .u16 (s' : Int)) ∧ Below u.heap.size u w') := fun u hu => by
          have h := sum_code _ _ _ (seesBB_one (w := u) rfl _ _ hu 24) (by simp; have := HM'.out; omega)
          rw [show [C'].flatten = C' by simp, ← hs'] at h
          exact h.mono fun _ _ ⟨he, hw⟩ => ⟨he, ((Below.refl u.heap.size u).alloc (Nat.le_refl _) _).trans (hw.mono (by simp))⟩
        have HFIN : Hid ((C'.all (· == 0) = true → t = 0 ∧ s' = 65535) ∧ (C'.all (· == 0) = false → t = s')) := by
          obtain ⟨h1, h2⟩ := HTT.out
          refine ⟨fun h => ?_, fun h => ?_⟩
          · have h3 : M.tot false C' = 0 := M.tot_zero C' false (fun q hq => by have := List.all_eq_true.1 h q hq; simpa using this)
            rw [h3] at h1
            refine ⟨?_, by rw [hs']; unfold M.csum; rw [h3]; rfl⟩
            rw [ht, hs]; unfold M.csum
            exact M.adj_zero h1 h2 (by omega)
          · obtain ⟨q, hq, hq0⟩ := List.all_eq_false.1 h
            have h3 : M.tot false C' ≠ 0 := M.tot_pos C' false hq (by simpa using hq0)
            rw [ht, hs, hs']; unfold M.csum
            exact M.adj_same h1 h2 (by omega) (by omega) h3
        clear hC hP hold hC' hs hs' ht HTT
        have hseen := HO.out.sees HC.out.2.2
        have HSEEN := hid hseen
        go_wp2_with fail
        refine (HWD.out _ HSEEN.out).mono ?_
        rintro _ _ ⟨rfl, rfl⟩
        go_wp2_with fail
        refine (HSM.out _ (HSEEN.out.below (below_drew (Below.refl _ _)))).mono ?_
        rintro _ w5 ⟨rfl, hb5⟩
        have hO5 := HO.out.below ((below_drew (Below.refl _ _)).trans hb5)
        have hbw5 := hb.trans (((below_drew (Below.refl _ _)).trans hb5).mono hb.size)
        have hs5 := hO5.sees HC.out.2.2
        obtain ⟨g1, o1, p1, he, _, hca, _, _⟩ := hs5.at a (by omega)
        simp at he
        obtain ⟨rfl, rfl⟩ := he
        obtain ⟨g1, o1, p2, he, _, hcb, _, _⟩ := hs5.at (a + 1) (by omega)
        simp at he
        obtain ⟨rfl, rfl⟩ := he
        rw [Nat.zero_add] at hca hcb
        obtain ⟨g2, n2, cap2, he2, _, _, _, _, hfz⟩ := hO5.grip (by intro e; have := HM.out; rw [e] at this; simp at this; omega)
        simp at he2
        obtain ⟨rfl, rfl, rfl⟩ := he2
        obtain ⟨hO6, hb6⟩ := hO5.set a hi (by omega)
        obtain ⟨hO7, hb7⟩ := hO6.set (a + 1) lo (by omega)
        have hbw7 := hbw5.trans (hb6.trans hb7)
        rw [← HCE.out] at hO7
        obtain ⟨w7, hw7⟩ : ∃ w7, w7 = (w5.setCell ⟨g, a, none⟩ (.int .u8 (hi : Int))).setCell ⟨g, a + 1, none⟩ (.int .u8 (lo : Int)) := ⟨_, rfl⟩
        rw [← hw7] at hO7 hbw7
        have HW7 := hid hw7
        have HO7 := hid hO7
        have HB7 := hid hbw7
        have b0 : (a : Int) < (m : Int) := by omega
        have b1 : (a : Int) + 1 < (m : Int) := by omega
        have b2 : (0 : Int) ≤ (a : Int) + 1 := by omega
        have f0 := hfz a
        have f1 := hfz (a + 1)
        clear hw7 hO7 hbw7 hO6 hb6 hb7 hO5 hbw5 hs5 hb5 hseen HSEEN HSM HWD hfz HO hb
        go_upto_region 16 with fail
        rw [← HW7.out]
        clear hca hcb f0 f1 HW7
        have HS7 := hid (HO7.out.sees HB'.out)
        go_wp2_with fail
        refine (HAD.out _).mono ?_
        rintro _ _ ⟨rfl, rfl⟩
        go_wp2_with fail
        go_loop [11, 12] (fun zb i => ∃ (k : Nat) (b : Bool), i = .int .i64 (k : Int) ∧ k ≤ m ∧ zb = .bool b ∧ Hid (b = (C'.take k).all (· == 0))) (fun _ i => m - (intOf i).toNat)
        case atStart => exact ⟨0, true, rfl, by omega, rfl, rfl⟩
        case round =>
          obtain ⟨k, b, rfl, hk, rfl, HK⟩ := hrel
          by_cases hlt : k < m
          · obtain ⟨g1, o1, q, he, _, hcq, _, HQ⟩ := HS7.out.at k hlt
            simp at he
            obtain ⟨rfl, rfl⟩ := he
            rw [Nat.zero_add] at hcq
            have HKS : Hid ((C'.take (k + 1)).all (· == 0) = (b && (q == 0))) := by
              unfold Hid; rw [take_snoc HQ.out, List.all_append, HK.out]; simp
            by_cases hq0 : q = 0
            · have hq1 : ((q : Int) != 0) = false := by simp [hq0]
              have HKT : Hid (b = (C'.take (k + 1)).all (· == 0)) := by unfold Hid; rw [HKS.out, hq0]; simp
              clear hq0 HKS
              go_wp2_with fail
              go_round
              case rel => exact ⟨k + 1, b, by go_num, by omega, rfl, HKT⟩
              case measure => simp [intOf]; omega
            · have hq1 : ((q : Int) != 0) = true := by simp; omega
              have HKT : Hid (false = (C'.take (k + 1)).all (· == 0)) := by unfold Hid; rw [HKS.out]; simp [hq0]
              clear hq0 HKS
              go_wp2_with fail
              go_round
              case rel => exact ⟨k + 1, false, by go_num, by omega, rfl, HKT⟩
              case measure => simp [intOf]; omega
          · have HKE : Hid (b = C'.all (· == 0)) := by
              have h := HK.out
              rw [List.take_of_length_le (by have := HM'.out; omega)] at h
              exact h
            cases b with
            | true =>
              obtain ⟨h1, h2⟩ := HFIN.out.1 HKE.out.symm
              subst h1 h2
              go_wp2_with fail
              refine (HSM'.out _ HS7.out).mono ?_
              rintro _ w9 ⟨rfl, hb9⟩
              go_wp2_with fail
              go_ret
              exact ⟨rfl, HB7.out.trans (hb9.mono HB7.out.size)⟩
            | false =>
              have h1 := HFIN.out.2 HKE.out.symm
              subst h1
              go_wp2_with fail
              refine (HSM'.out _ HS7.out).mono ?_
              rintro _ w9 ⟨rfl, hb9⟩
              go_wp2_with fail
              go_ret
              exact ⟨ret_bool (by simp), HB7.out.trans (hb9.mono HB7.out.size)⟩
end Go.Proofs.Ytjjmopmdiflffaa
