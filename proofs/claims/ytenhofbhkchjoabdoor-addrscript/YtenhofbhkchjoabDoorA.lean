import Derived.Test.YtenhofbhkchjoabDoorRows
import Derived.Test.YtenhofbhkchjoabDoorMathS
import Derived.WalkKit
import Derived.ProofKit
import Derived.OpenShut
import Derived.Deep.QuietTactic
import Derived.BigQuiet
import Derived.Laws.BitsAllLaws
import Derived.Shelf.Lay
import Derived.Shelf.LaysM
import Derived.Shelf.Strconv.Itoa3
import Derived.Shelf.Strings.Search2
import Derived.Ground.NamesProg
namespace Go.Proofs.YtenhofbhkchjoabDoor
open Go.ChangeShapes Go.WideShapes Go.ChangeAt Go.RowKit
set_option maxHeartbeats 400000

theorem ret_int {k : IntKind} {a b : Int} (h : a = b) : Ending.returned (.int k a) = .returned (.int k b) := by rw [h]
theorem ret_bool {a b : Bool} (h : a = b) : Ending.returned (.bool a) = .returned (.bool b) := by rw [h]
theorem ret_int2 {k l : IntKind} {a b c d : Int} (h : a = b) (g : c = d) : Ending.returned (.tuple #[.int k a, .int l c]) = .returned (.tuple #[.int k b, .int l d]) := by rw [h, g]
theorem hid {p : Prop} (h : p) : Hid p := h
theorem below_drewN {B : Nat} {a w : World} (h : Below B a w) (n : Nat) : Below B a (w.drewN n) := ⟨h.os, h.tape, h.output, h.size, h.block⟩

theorem cut0 : (⟨#[49, 48, 46, 49, 46, 50, 46, 51]⟩ : ByteArray).extract 2 8 = (⟨#[46, 49, 46, 50, 46, 51]⟩ : ByteArray) := by decide +kernel
theorem cut1 : (⟨#[46, 49, 46, 50, 46, 51]⟩ : ByteArray).extract 1 6 = (⟨#[49, 46, 50, 46, 51]⟩ : ByteArray) := by decide +kernel
theorem cut2 : (⟨#[49, 46, 50, 46, 51]⟩ : ByteArray).extract 1 5 = (⟨#[46, 50, 46, 51]⟩ : ByteArray) := by decide +kernel
theorem cut3 : (⟨#[46, 50, 46, 51]⟩ : ByteArray).extract 1 4 = (⟨#[50, 46, 51]⟩ : ByteArray) := by decide +kernel
theorem cut4 : (⟨#[50, 46, 51]⟩ : ByteArray).extract 1 3 = (⟨#[46, 51]⟩ : ByteArray) := by decide +kernel
theorem cut5 : (⟨#[46, 51]⟩ : ByteArray).extract 1 2 = (⟨#[51]⟩ : ByteArray) := by decide +kernel
theorem cut6 : (⟨#[51]⟩ : ByteArray).extract 1 1 = (⟨#[]⟩ : ByteArray) := by decide +kernel
theorem at0_0 (h : 0 < (⟨#[49, 48, 46, 49, 46, 50, 46, 51]⟩ : ByteArray).size) : ((⟨#[49, 48, 46, 49, 46, 50, 46, 51]⟩ : ByteArray)[0]'h).toNat = 49 := rfl
theorem at0_1 (h : 1 < (⟨#[49, 48, 46, 49, 46, 50, 46, 51]⟩ : ByteArray).size) : ((⟨#[49, 48, 46, 49, 46, 50, 46, 51]⟩ : ByteArray)[1]'h).toNat = 48 := rfl
theorem at0_2 (h : 2 < (⟨#[49, 48, 46, 49, 46, 50, 46, 51]⟩ : ByteArray).size) : ((⟨#[49, 48, 46, 49, 46, 50, 46, 51]⟩ : ByteArray)[2]'h).toNat = 46 := rfl
theorem at1_0 (h : 0 < (⟨#[46, 49, 46, 50, 46, 51]⟩ : ByteArray).size) : ((⟨#[46, 49, 46, 50, 46, 51]⟩ : ByteArray)[0]'h).toNat = 46 := rfl
theorem at1_1 (h : 1 < (⟨#[46, 49, 46, 50, 46, 51]⟩ : ByteArray).size) : ((⟨#[46, 49, 46, 50, 46, 51]⟩ : ByteArray)[1]'h).toNat = 49 := rfl
theorem at1_2 (h : 2 < (⟨#[46, 49, 46, 50, 46, 51]⟩ : ByteArray).size) : ((⟨#[46, 49, 46, 50, 46, 51]⟩ : ByteArray)[2]'h).toNat = 46 := rfl
theorem at2_0 (h : 0 < (⟨#[49, 46, 50, 46, 51]⟩ : ByteArray).size) : ((⟨#[49, 46, 50, 46, 51]⟩ : ByteArray)[0]'h).toNat = 49 := rfl
theorem at2_1 (h : 1 < (⟨#[49, 46, 50, 46, 51]⟩ : ByteArray).size) : ((⟨#[49, 46, 50, 46, 51]⟩ : ByteArray)[1]'h).toNat = 46 := rfl
theorem at2_2 (h : 2 < (⟨#[49, 46, 50, 46, 51]⟩ : ByteArray).size) : ((⟨#[49, 46, 50, 46, 51]⟩ : ByteArray)[2]'h).toNat = 50 := rfl
theorem at3_0 (h : 0 < (⟨#[46, 50, 46, 51]⟩ : ByteArray).size) : ((⟨#[46, 50, 46, 51]⟩ : ByteArray)[0]'h).toNat = 46 := rfl
theorem at3_1 (h : 1 < (⟨#[46, 50, 46, 51]⟩ : ByteArray).size) : ((⟨#[46, 50, 46, 51]⟩ : ByteArray)[1]'h).toNat = 50 := rfl
theorem at3_2 (h : 2 < (⟨#[46, 50, 46, 51]⟩ : ByteArray).size) : ((⟨#[46, 50, 46, 51]⟩ : ByteArray)[2]'h).toNat = 46 := rfl
theorem at4_0 (h : 0 < (⟨#[50, 46, 51]⟩ : ByteArray).size) : ((⟨#[50, 46, 51]⟩ : ByteArray)[0]'h).toNat = 50 := rfl
theorem at4_1 (h : 1 < (⟨#[50, 46, 51]⟩ : ByteArray).size) : ((⟨#[50, 46, 51]⟩ : ByteArray)[1]'h).toNat = 46 := rfl
theorem at4_2 (h : 2 < (⟨#[50, 46, 51]⟩ : ByteArray).size) : ((⟨#[50, 46, 51]⟩ : ByteArray)[2]'h).toNat = 51 := rfl
theorem at5_0 (h : 0 < (⟨#[46, 51]⟩ : ByteArray).size) : ((⟨#[46, 51]⟩ : ByteArray)[0]'h).toNat = 46 := rfl
theorem at5_1 (h : 1 < (⟨#[46, 51]⟩ : ByteArray).size) : ((⟨#[46, 51]⟩ : ByteArray)[1]'h).toNat = 51 := rfl
theorem at6_0 (h : 0 < (⟨#[51]⟩ : ByteArray).size) : ((⟨#[51]⟩ : ByteArray)[0]'h).toNat = 51 := rfl
attribute [local go_sem] cut0 cut1 cut2 cut3 cut4 cut5 cut6 at0_0 at0_1 at0_2 at1_0 at1_1 at1_2 at2_0 at2_1 at2_2 at3_0 at3_1 at3_2 at4_0 at4_1 at4_2 at5_0 at5_1 at6_0

set_option maxHeartbeats 2000000 in
theorem begun_any (w : World) :
    Calls Tryd.prog 6 #[] w fun e w' => e = .returned (.bool true) ∧ w' = w := by
  go_enter Tryd.func6, Tryd.ntmps6
  go_wp2
  repeat ((first | (refine wp_loop_rounds 6 ?_; rw [rounds_succ]) | (rw [rounds_succ])); go_wp2)
  go_ret
  exact ⟨ret_bool (by decide +kernel), rfl⟩


section
open Go.Shelf
shelf_lay LaysM.n171 Nm 171 at Tryd as Tryd.layItoa
shelf_lay Lays.n219 Nm 219 at Tryd as Tryd.layIndex
end

theorem take_snoc (s : ByteArray) (k : Nat) (h : k < s.size) : s.data.toList.take (k + 1) = s.data.toList.take k ++ [s[k]] := by
  rw [List.take_succ_eq_append_getElem (by simpa using h)]; rfl

theorem run_all {l : List UInt8} {k : Nat} (hd : ∀ c, c ∈ l.take k → S.isDig c = true) : ∃ t, S.run l = l.take k ++ t := by
  refine ⟨(l.drop k).takeWhile S.isDig, ?_⟩
  unfold S.run
  conv => lhs; rw [← List.take_append_drop k l]
  rw [List.takeWhile_append_of_pos hd]

theorem run_end {l : List UInt8} {k : Nat} (hd : ∀ c, c ∈ l.take k → S.isDig c = true) (he : ∀ c, l[k]? = some c → S.isDig c = false) : S.run l = l.take k := by
  unfold S.run
  conv => lhs; rw [← List.take_append_drop k l]
  rw [List.takeWhile_append_of_pos hd]
  cases e : l.drop k with
  | nil => simp
  | cons c t =>
    have hc : l[k]? = some c := by
      have := congrArg (fun m => m[0]?) e
      simpa using this
    rw [List.takeWhile_cons_of_neg (by rw [he c hc]; simp)]; simp

/-- What leadingNumber answers where the digits end at k. -/
theorem lead_end {s : ByteArray} {k most : Nat} (hk : k ≤ s.size) (hr : S.run s.data.toList = s.data.toList.take k) (hv : S.val (s.data.toList.take k) ≤ most) :
    (k ≤ 1 → S.lead s.data.toList most = (S.val (s.data.toList.take k), k)) ∧ (∀ h : 1 < k, ∀ c : UInt8, c = s[0]'(by omega) → S.lead s.data.toList most = if c.toNat = 48 then (0, 0) else (S.val (s.data.toList.take k), k)) := by
  have hl : (s.data.toList.take k).length = k := by simp; omega
  constructor
  · intro h1
    unfold S.lead; rw [hr, hl, if_neg (by omega)]
  · intro h1 c hc
    have hh : s.data.toList.head? = some c := by
      rw [List.head?_eq_getElem?, hc, List.getElem?_eq_getElem (by simp; omega)]; rfl
    unfold S.lead; rw [hr, hl, hh]
    by_cases e : c.toNat = 48
    · have : c = 48 := by rw [← UInt8.toNat_inj]; simpa using e
      rw [if_pos (.inr ⟨h1, by rw [this]⟩), if_pos e]
    · rw [if_neg e, if_neg]
      rintro (h | ⟨_, h⟩)
      · omega
      · simp at h; exact e (by rw [h]; rfl)

theorem ret_lead {a b : Nat} {p : Nat × Nat} (h : p = (a, b)) : Ending.returned (.tuple #[.int .i64 (a : Int), .int .i64 (b : Int)]) = .returned (.tuple #[.int .i64 ((p.1 : Nat) : Int), .int .i64 ((p.2 : Nat) : Int)]) := by rw [h]

set_option maxHeartbeats 1000000 in
theorem lead_any (s : ByteArray) (most : Nat) (w : World) (hs : s.size ≤ maxLen) (hm : most < 256) :
    Calls Tryd.prog 37 #[.string s, .int .i64 most] w fun e w' => e = .returned (.tuple #[.int .i64 ((S.lead s.data.toList most).1 : Nat), .int .i64 ((S.lead s.data.toList most).2 : Nat)]) ∧ w' = w := by
  unfold maxLen at hs
  have hl : s.data.toList.length = s.size := by simp
  have HL : Hid (s.data.toList.length = s.size) := hl
  clear hl
  go_enter Tryd.func37, Tryd.ntmps37
  go_wp2
  go_loop [6, 7] (fun t i => ∃ k : Nat, k ≤ s.size ∧ i = .int .i64 k ∧ t = .int .i64 (S.val (s.data.toList.take k) : Nat) ∧ S.val (s.data.toList.take k) ≤ most ∧ Hid (∀ c, c ∈ s.data.toList.take k → S.isDig c = true)) (fun _ i => s.size - (intOf i).toNat)
  case atStart => exact ⟨0, by omega, rfl, rfl, by simp [S.val], by simp [Hid]⟩
  case round =>
    obtain ⟨k, hk, rfl, rfl, hv, HD⟩ := hrel
    by_cases hlt : k < s.size
    · have HT := hid (take_snoc s k hlt)
      by_cases hdig : S.isDig s[k] = true
      · have hd1 : (48 : Int) ≤ ((s[k]'hlt).toNat : Int) ∧ ((s[k]'hlt).toNat : Int) ≤ 57 := by simp [S.isDig] at hdig; omega
        have hd2 := hd1.1
        have hd3 := hd1.2
        have HV : Hid (S.val (s.data.toList.take (k + 1)) = S.val (s.data.toList.take k) * 10 + ((s[k]'hlt).toNat - 48)) := by unfold Hid; rw [HT.out, S.val_snoc]
        have HD2 : Hid (∀ c, c ∈ s.data.toList.take (k + 1) → S.isDig c = true) := by
          intro c hc; rw [HT.out] at hc
          rcases List.mem_append.1 hc with hc | hc
          · exact HD.out c hc
          · simp at hc; subst hc; exact hdig
        clear hdig hd1
        generalize hvv : S.val (s.data.toList.take k) = vv at *
        have HVV := hid hvv
        clear hvv
        by_cases hbig : most < vv * 10 + ((s[k]'hlt).toNat - 48)
        · have hbig2 : (most : Int) < (vv : Int) * 10 + (((s[k]'hlt).toNat : Int) - 48) := by omega
          have HR : Hid (S.lead s.data.toList most = (0, 0)) := by
            obtain ⟨t, ht⟩ := run_all HD2.out
            have h5 := S.val_mono (s.data.toList.take (k + 1)) t
            rw [← ht, HV.out] at h5
            unfold Hid S.lead; rw [if_pos (.inl (Nat.lt_of_lt_of_le hbig h5))]
          clear hbig
          go_wp2
          go_ret2
          exact ⟨ret_lead (a := 0) (b := 0) HR.out, rfl⟩
        · have hbig2 : ¬ (most : Int) < (vv : Int) * 10 + (((s[k]'hlt).toNat : Int) - 48) := by omega
          go_wp2
          go_round
          case rel => exact ⟨k + 1, by omega, by go_num, by rw [HV.out]; go_num, by rw [HV.out]; omega, HD2⟩
          case measure => simp [intOf]; omega
      · have hnd : S.isDig s[k] = false := by simpa using hdig
        have hex : ((s[k]'hlt).toNat : Int) < 48 ∨ (48 ≤ ((s[k]'hlt).toNat : Int) ∧ 57 < ((s[k]'hlt).toNat : Int)) := by
          simp [S.isDig] at hnd; omega
        have HLE := hid <| lead_end hk (run_end HD.out (fun c hc => by
          have : c = s[k] := by
            rw [List.getElem?_eq_getElem (by rw [HL.out]; exact hlt)] at hc
            simp at hc; exact hc.symm
          rw [this]; exact hnd)) hv
        clear hdig hnd
        rcases hex with hex | ⟨hex1, hex⟩
        all_goals
          by_cases hk1 : k ≤ 1
          · have HR := hid (HLE.out.1 hk1)
            go_wp2
            go_ret2
            exact ⟨ret_lead HR.out, rfl⟩
          · have hk2 : 1 < k := by omega
            have hs0 : 0 < s.size := by omega
            have HR0 := hid (HLE.out.2 hk2 _ rfl)
            by_cases h48 : (s[0]'hs0).toNat = 48
            · have hq : (((s[0]'hs0).toNat : Int) == 48) = true := by simp [h48]
              have HR := hid (HR0.out.trans (if_pos h48))
              clear HR0 h48
              go_wp2
              go_ret2
              exact ⟨ret_lead (a := 0) (b := 0) HR.out, rfl⟩
            · have hq : (((s[0]'hs0).toNat : Int) == 48) = false := by rw [beq_eq_false_iff_ne]; omega
              have HR := hid (HR0.out.trans (if_neg h48))
              clear HR0 h48
              go_wp2
              go_ret2
              exact ⟨ret_lead HR.out, rfl⟩
    · have HLE := hid <| lead_end hk (run_end HD.out (fun c hc => by
        have h1 := (List.getElem?_eq_some_iff.1 hc).1
        rw [HL.out] at h1; omega)) hv
      by_cases hk1 : k ≤ 1
      · have HR := hid (HLE.out.1 hk1)
        go_wp2
        go_ret2
        exact ⟨ret_lead HR.out, rfl⟩
      · have hk2 : 1 < k := by omega
        have hs0 : 0 < s.size := by omega
        have HR0 := hid (HLE.out.2 hk2 _ rfl)
        by_cases h48 : (s[0]'hs0).toNat = 48
        · have hq : (((s[0]'hs0).toNat : Int) == 48) = true := by simp [h48]
          have HR := hid (HR0.out.trans (if_pos h48))
          clear HR0 h48
          go_wp2
          go_ret2
          exact ⟨ret_lead (a := 0) (b := 0) HR.out, rfl⟩
        · have hq : (((s[0]'hs0).toNat : Int) == 48) = false := by rw [beq_eq_false_iff_ne]; omega
          have HR := hid (HR0.out.trans (if_neg h48))
          clear HR0 h48
          go_wp2
          go_ret2
          exact ⟨ret_lead HR.out, rfl⟩
end Go.Proofs.YtenhofbhkchjoabDoor
