import Derived.Test.YtdoeebbcieiimaaA
import Derived.Deep.CutRange
namespace Go.Proofs.Ytdoeebbcieiimaa
open Go.ChangeShapes Go.WideShapes Go.ChangeAt Go.RowKit
set_option maxHeartbeats 400000
set_option maxRecDepth 100000

theorem take_snoc {α : Type} {L : List α} {j : Nat} {x : α} (h : L[j]? = some x) : L.take (j + 1) = L.take j ++ [x] := by
  rw [List.take_add_one, h]; rfl

/-- What is added up of the first lists. -/
def T (Ls : List (List Nat)) (k : Nat) : Nat := M.tot false (Ls.take k).flatten
def O (Ls : List (List Nat)) (k : Nat) : Bool := M.par false (Ls.take k).flatten.length

theorem T_succ {Ls : List (List Nat)} {k : Nat} {l : List Nat} (h : Ls[k]? = some l) : T Ls (k + 1) = T Ls k + M.tot (O Ls k) l := by
  unfold T O; rw [take_snoc h, List.flatten_append, M.tot_append]; simp

theorem O_succ {Ls : List (List Nat)} {k : Nat} {l : List Nat} (h : Ls[k]? = some l) : O Ls (k + 1) = M.par (O Ls k) l.length := by
  unfold O; rw [take_snoc h, List.flatten_append, List.length_append, M.par_add]; simp

theorem T_le {Ls : List (List Nat)} {k : Nat} (hb : ∀ l ∈ Ls, ∀ x ∈ l, x < 256) (hl : Ls.flatten.length ≤ 1099511627776) : T Ls k ≤ 71776119061217280 := by
  have h1 := M.tot_le (Ls.take k).flatten false (fun x hx => by
    obtain ⟨l, hl, hx⟩ := List.mem_flatten.1 hx
    exact hb l (List.mem_of_mem_take hl) x hx)
  have h2 : (Ls.take k).flatten.length ≤ Ls.flatten.length := by
    conv => rhs; rw [← List.take_append_drop k Ls, List.flatten_append, List.length_append]
    omega
  unfold T; omega

theorem SeesBB.bytes {w : World} {v : Value} {Ls : List (List Nat)} (h : SeesBB w v Ls) : ∀ l ∈ Ls, ∀ x ∈ l, x < 256 := by
  obtain ⟨ao, cap, hv, h1, h2, h3⟩ := h
  intro l hl
  obtain ⟨j, hj, rfl⟩ := List.mem_iff_getElem.1 hl
  obtain ⟨_, _, _, _, _, _, h⟩ := h3 j hj
  exact h.bytes

set_option maxHeartbeats 500000 in
theorem sum_code (v : Value) (Ls : List (List Nat)) (w : World) (hv : SeesBB w v Ls) (hl : Ls.flatten.length ≤ 1099511627776) :
    Calls Try.prog 60 #[v] w fun e w' => e = .returned (.int .u16 ((M.csum Ls.flatten : Nat) : Int)) ∧ Below w.heap.size w w' := by
  obtain ⟨ao, n, cap, rfl, HN, hn1, hn2⟩ := hv.shape
  have HT : Hid (∀ k, T Ls k ≤ 71776119061217280) := fun k => T_le hv.bytes hl
  have HV := hid hv
  clear hv hl
  unfold maxLen at hn2
  go_enter Try.func60, Try.ntmps60
  go_wp2_with fail
  go_loopw [3, 4, 6, 9] (fun t o _ i wr => ∃ (k s : Nat) (b : Bool), i = .int .i64 k ∧ k ≤ n ∧ t = .int .u64 s ∧ o = .bool b ∧ Hid (s = T Ls k ∧ b = O Ls k) ∧ Below w.heap.size w wr) (fun _ _ _ i _ => n - (intOf i).toNat)
  case atStart => exact ⟨0, 0, false, rfl, by omega, rfl, rfl, ⟨rfl, rfl⟩, Below.refl _ _⟩
  case round =>
    obtain ⟨k, s, b, rfl, hk, rfl, rfl, HS, hb⟩ := hrel
    have hs : s ≤ 71776119061217280 := by have := HT.out k; have := HS.out.1; omega
    by_cases hlt : k < n
    · obtain ⟨g, off, u, l, rfl, hg, hc, hu, HL⟩ := (HV.out.below hb).at k hlt
      obtain ⟨ar, nr, capr, rfl, HNR, hr1, hr2⟩ := hu.shape
      unfold maxLen at hr2
      have HU := hid hu
      have HTS : Hid (T Ls (k + 1) = s + M.tot b l ∧ O Ls (k + 1) = M.par b l.length) := by
        have h1 := T_succ HL.out
        have h2 := O_succ HL.out
        rw [← HS.out.1, ← HS.out.2] at h1
        rw [← HS.out.2] at h2
        exact ⟨h1, h2⟩
      clear hu HS
      go_upto_region 6 with fail
      go_cut [3, 4, 6, 9, 18] from 10 to 47 (fun t o p i c wx => i = .int .i64 k ∧ t = .int .u64 s ∧ o = .bool b ∧ p = .slice ar nr capr ∧ (∃ c' : Bool, c = .bool c' ∧ Hid (c' = (b && decide (0 < nr)))) ∧ wx = wr)
      case first =>
        cases b
        · go_wp2_with fail
          go_meet
          case rel => exact ⟨rfl, rfl, rfl, rfl, ⟨false, rfl, rfl⟩, rfl⟩
        · go_wp2_with fail
          go_meet
          case rel => exact ⟨rfl, rfl, rfl, rfl, ⟨decide (0 < nr), by simp, by simp [Hid]⟩, rfl⟩
      case rest =>
        obtain ⟨rfl, rfl, rfl, rfl, ⟨c, rfl, HC⟩, rfl⟩ := hcut
        go_upto_if 18 with fail
        go_cut [3, 4, 6, 9] from 10 to 47 (fun t o p i wx => ∃ (s' : Nat) (b' : Bool) (l' : List Nat), i = .int .i64 k ∧ t = .int .u64 s' ∧ o = .bool b' ∧ Hid (SeesB wx p l') ∧ Hid ((l' = [] ∨ b' = false) ∧ T Ls (k + 1) = s' + M.tot b' l' ∧ O Ls (k + 1) = M.par b' l'.length) ∧ Below w.heap.size w wx)
        case first =>
          cases c with
          | true =>
            obtain ⟨hb1, hnr⟩ : b = true ∧ 0 < nr := by have := HC.out.symm; simpa using this
            obtain ⟨aq, HB, hcut⟩ := HU.out.low 1 1 rfl (by omega)
            obtain ⟨ga, oa, x, rfl, hga, hca, hx, HX⟩ := HU.out.at 0 hnr
            have HR : Hid (T Ls (k + 1) = (s + x) + M.tot false (l.drop 1) ∧ O Ls (k + 1) = M.par false (l.drop 1).length) := by
              have h1 := HTS.out
              have h2 := HX.out
              rw [hb1] at h1
              cases l with
              | nil => simp at h2
              | cons y l =>
                simp at h2; subst h2
                rw [h1.1, h1.2]
                exact ⟨by simp [M.tot]; omega, by simp only [List.length_cons, List.drop_succ_cons, List.drop_zero]; exact (M.par_succ true _).symm⟩
            rw [Nat.add_zero] at hca
            clear hb1 HTS HC HX HU
            go_wp2_with fail
            go_meet
            case rel => exact ⟨s + x, false, l.drop 1, rfl, by go_num, rfl, HB, ⟨.inr rfl, HR.out⟩, hb⟩
          | false =>
            have HR : Hid (l = [] ∨ b = false) := by
              have h1 := HC.out.symm
              cases b with
              | false => exact .inr rfl
              | true => left; simp at h1; have h2 := HNR.out; exact List.eq_nil_of_length_eq_zero (by omega)
            clear HC
            go_wp2_with fail
            go_meet
            case rel => exact ⟨s, b, l, rfl, rfl, rfl, HU, ⟨HR.out, HTS.out⟩, hb⟩
        case rest =>
          obtain ⟨s1, b1, l1, rfl, rfl, rfl, HU1, HR1, hb2⟩ := hcut
          clear HU HTS HC hc hs hg hr1 hr2 HNR
          go_wp2_with fail
          go_loopw [3, 6] (fun t p wx => ∃ (s' : Nat) (l' : List Nat), t = .int .u64 s' ∧ Hid (SeesB wx p l') ∧ Hid ((l' = [] ∨ b1 = false) ∧ T Ls (k + 1) = s' + M.tot b1 l' ∧ O Ls (k + 1) = M.par b1 l'.length) ∧ Below w.heap.size w wx) (fun _ p _ => lenOf p)
          case atStart => exact ⟨s1, l1, rfl, HU1, HR1, hb2⟩
          case round =>
            obtain ⟨s2, l2, rfl, HU2, HR2, hb3⟩ := hrel
            have hs2 : s2 ≤ 71776119061217280 := by have h1 := HT.out (k + 1); have h2 := HR2.out.2.1; omega
            obtain ⟨a2, n2, cap2, rfl, HN2, hr1, hr2⟩ := HU2.out.shape
            unfold maxLen at hr2
            by_cases hge : 2 ≤ n2
            · obtain ⟨x, y, r, hl2⟩ : ∃ x y r, l2 = x :: y :: r := by
                have h1 := HN2.out
                match l2, h1 with
                | [], h1 => simp at h1; omega
                | [x], h1 => simp at h1; omega
                | x :: y :: r, _ => exact ⟨x, y, r, rfl⟩
              subst hl2
              obtain ⟨aq, HB, hcut⟩ := HU2.out.low 2 2 rfl hge
              have HC := fun u (hu : Below _ _ u) => read16_any _ x y r u (HU2.out.below hu)
              obtain ⟨ga, oa, x', rfl, hga, hca, hx, HX⟩ := HU2.out.at 0 (by omega)
              obtain ⟨g', o', y', he, _, hcy, hy, HY⟩ := HU2.out.at 1 (by omega)
              clear hcy he
              have hxe : x' = x := by have := HX.out; simpa using this.symm
              have hye : y' = y := by have := HY.out; simpa using this.symm
              subst hxe hye
              have HR3 : Hid (((r = [] ∨ b1 = false) ∧ T Ls (k + 1) = (s2 + (x' * 256 + y')) + M.tot b1 r ∧ O Ls (k + 1) = M.par b1 r.length)) := by
                obtain ⟨h1, h2, h3⟩ := HR2.out
                have hb1 : b1 = false := by rcases h1 with h1 | h1; · cases h1
                                            · exact h1
                rw [hb1] at h2 h3 ⊢
                refine ⟨.inr rfl, by rw [h2]; simp [M.tot]; omega, by rw [h3]; simp only [List.length_cons]; rw [← M.par_succ, ← M.par_succ]; rfl⟩
              rw [List.drop_succ_cons, List.drop_succ_cons, List.drop_zero] at HB
              obtain ⟨z, hz⟩ : ∃ z, z = x' * 256 + y' := ⟨_, rfl⟩
              rw [← hz] at HC HR3
              have hz1 : z < 65536 := by omega
              clear HX HY hz hca hx hy
              go_wp2_with fail
              refine (HC _ (Below.refl _ _)).mono ?_
              rintro _ w3 ⟨rfl, hb4⟩
              clear HC
              have HB3 := hid (SeesB.below HB.out hb4)
              have hb5 := hb3.trans (hb4.mono hb3.size)
              clear HB hb4
              go_wp2_with fail
              go_roundw
              case rel => exact ⟨s2 + z, r, by go_num, HB3, HR3, hb5⟩
              case measure => simp [lenOf]; omega
            · by_cases h1 : n2 = 1
              · obtain ⟨x, hl2⟩ : ∃ x, l2 = [x] := by
                  have h2 := HN2.out
                  match l2, h2 with
                  | [], h2 => simp at h2; omega
                  | [x], _ => exact ⟨x, rfl⟩
                  | x :: y :: r, h2 => simp at h2; omega
                subst hl2
                obtain ⟨ga, oa, x', rfl, hga, hca, hx, HX⟩ := HU2.out.at 0 (by omega)
                have hxe : x' = x := by have := HX.out; simpa using this.symm
                subst hxe
                have HR3 : Hid (s2 + x' * 256 = T Ls (k + 1) ∧ true = O Ls (k + 1)) := by
                  obtain ⟨h2, h3, h4⟩ := HR2.out
                  have hb1 : b1 = false := by rcases h2 with h2 | h2; · cases h2
                                              · exact h2
                  rw [hb1] at h3 h4
                  exact ⟨by rw [h3]; simp [M.tot]; omega, by rw [h4]; rfl⟩
                rw [Nat.add_zero] at hca
                subst h1
                clear HX HR2 HU2 HN2
                go_wp2_with fail
                go_roundw
                case rel => exact ⟨k + 1, s2 + x' * 256, true, by go_num, by omega, by go_num, rfl, HR3, hb3⟩
                case measure => simp [intOf]; omega
              · obtain rfl : n2 = 0 := by omega
                have HR3 : Hid (s2 = T Ls (k + 1) ∧ b1 = O Ls (k + 1)) := by
                  obtain ⟨h2, h3, h4⟩ := HR2.out
                  have h5 : l2 = [] := List.eq_nil_of_length_eq_zero HN2.out.symm
                  rw [h5] at h3 h4
                  exact ⟨by rw [h3]; simp [M.tot], by rw [h4]; rfl⟩
                clear HR2 HU2 HN2
                go_wp2_with fail
                go_roundw
                case rel => exact ⟨k + 1, s2, b1, by go_num, by omega, rfl, rfl, HR3, hb3⟩
                case measure => simp [intOf]; omega
    · have HE : Hid (M.csum Ls.flatten = 65535 - M.fold s) := by
        unfold Hid M.csum
        rw [HS.out.1]
        unfold T
        rw [List.take_of_length_le (by have := HN.out; omega)]
      go_wp2_with fail
      refine (complement_any s _ (by omega)).mono ?_
      rintro _ _ ⟨rfl, rfl⟩
      go_wp2_with fail
      go_ret
      exact ⟨ret_int (by rw [HE.out]), hb⟩
end Go.Proofs.Ytdoeebbcieiimaa
