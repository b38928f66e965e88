import Derived.Test.YtenhofbhkchjoaaRows
import Derived.Test.YtenhofbhkchjoaaMath
import Derived.WalkKit
import Derived.ProofKit
import Derived.OpenShut
import Derived.Deep.QuietTactic
import Derived.BigQuiet
namespace Go.Proofs.Ytenhofbhkchjoaa
open Go.ChangeShapes Go.WideShapes Go.ChangeAt Go.RowKit
set_option maxHeartbeats 400000

theorem pow_pred (n : Nat) (h : n ≤ 32) : 4294967295 / 2 ^ n = 2 ^ (32 - n) - 1 := by
  have : ∀ m, m < 33 → 4294967295 / 2 ^ m = 2 ^ (32 - m) - 1 := by decide +kernel
  exact this n (by omega)

theorem ret_int {k : IntKind} {a b : Int} (h : a = b) : Ending.returned (.int k a) = .returned (.int k b) := by rw [h]

theorem ret_bool {a b : Bool} (h : a = b) : Ending.returned (.bool a) = .returned (.bool b) := by rw [h]

theorem bits_any (n : Int) (k : Nat) (w : World) (h0 : n = 32 - (k : Int)) (h1 : k ≤ 32) :
    Calls Try.prog 33 #[.int .i64 n] w fun e w' => e = .returned (.int .u32 ((M.mask k : Nat) : Int)) ∧ w' = w := by
  have hp := pow_pred n.toNat (by omega)
  have HP : Hid (4294967295 / 2 ^ n.toNat = M.mask k) := by
    unfold M.mask; rw [show k = 32 - n.toNat from by omega]; exact hp
  have b0 : 0 ≤ n := by omega
  have b1 : n ≤ 32 := by omega
  clear hp h0 h1
  go_enter Try.func33, Try.ntmps33
  go_wp2
  go_ret
  refine ⟨ret_int ?_, rfl⟩
  rw [← HP.out]; simp

theorem cut0 : (⟨#[49, 48, 46, 49, 46, 50, 46, 51]⟩ : ByteArray).extract 2 8 = (⟨#[46, 49, 46, 50, 46, 51]⟩ : ByteArray) := by decide +kernel
theorem cut1 : (⟨#[46, 49, 46, 50, 46, 51]⟩ : ByteArray).extract 1 6 = (⟨#[49, 46, 50, 46, 51]⟩ : ByteArray) := by decide +kernel
theorem cut2 : (⟨#[49, 46, 50, 46, 51]⟩ : ByteArray).extract 1 5 = (⟨#[46, 50, 46, 51]⟩ : ByteArray) := by decide +kernel
theorem cut3 : (⟨#[46, 50, 46, 51]⟩ : ByteArray).extract 1 4 = (⟨#[50, 46, 51]⟩ : ByteArray) := by decide +kernel
theorem cut4 : (⟨#[50, 46, 51]⟩ : ByteArray).extract 1 3 = (⟨#[46, 51]⟩ : ByteArray) := by decide +kernel
theorem cut5 : (⟨#[46, 51]⟩ : ByteArray).extract 1 2 = (⟨#[51]⟩ : ByteArray) := by decide +kernel
theorem cut6 : (⟨#[51]⟩ : ByteArray).extract 1 1 = (⟨#[]⟩ : ByteArray) := by decide +kernel
theorem at0_0 (h : 0 < (⟨#[49, 48, 46, 49, 46, 50, 46, 51]⟩ : ByteArray).size) : ((⟨#[49, 48, 46, 49, 46, 50, 46, 51]⟩ : ByteArray)[0]'h).toNat = 49 := rfl
theorem at0_1 (h : 1 < (⟨#[49, 48, 46, 49, 46, 50, 46, 51]⟩ : ByteArray).size) : ((⟨#[49, 48, 46, 49, 46, 50, 46, 51]⟩ : ByteArray)[1]'h).toNat = 48 := rfl
theorem at0_2 (h : 2 < (⟨#[49, 48, 46, 49, 46, 50, 46, 51]⟩ : ByteArray).size) : ((⟨#[49, 48, 46, 49, 46, 50, 46, 51]⟩ : ByteArray)[2]'h).toNat = 46 := rfl
theorem at1_0 (h : 0 < (⟨#[46, 49, 46, 50, 46, 51]⟩ : ByteArray).size) : ((⟨#[46, 49, 46, 50, 46, 51]⟩ : ByteArray)[0]'h).toNat = 46 := rfl
theorem at1_1 (h : 1 < (⟨#[46, 49, 46, 50, 46, 51]⟩ : ByteArray).size) : ((⟨#[46, 49, 46, 50, 46, 51]⟩ : ByteArray)[1]'h).toNat = 49 := rfl
theorem at1_2 (h : 2 < (⟨#[46, 49, 46, 50, 46, 51]⟩ : ByteArray).size) : ((⟨#[46, 49, 46, 50, 46, 51]⟩ : ByteArray)[2]'h).toNat = 46 := rfl
theorem at2_0 (h : 0 < (⟨#[49, 46, 50, 46, 51]⟩ : ByteArray).size) : ((⟨#[49, 46, 50, 46, 51]⟩ : ByteArray)[0]'h).toNat = 49 := rfl
theorem at2_1 (h : 1 < (⟨#[49, 46, 50, 46, 51]⟩ : ByteArray).size) : ((⟨#[49, 46, 50, 46, 51]⟩ : ByteArray)[1]'h).toNat = 46 := rfl
theorem at2_2 (h : 2 < (⟨#[49, 46, 50, 46, 51]⟩ : ByteArray).size) : ((⟨#[49, 46, 50, 46, 51]⟩ : ByteArray)[2]'h).toNat = 50 := rfl
theorem at3_0 (h : 0 < (⟨#[46, 50, 46, 51]⟩ : ByteArray).size) : ((⟨#[46, 50, 46, 51]⟩ : ByteArray)[0]'h).toNat = 46 := rfl
theorem at3_1 (h : 1 < (⟨#[46, 50, 46, 51]⟩ : ByteArray).size) : ((⟨#[46, 50, 46, 51]⟩ : ByteArray)[1]'h).toNat = 50 := rfl
theorem at3_2 (h : 2 < (⟨#[46, 50, 46, 51]⟩ : ByteArray).size) : ((⟨#[46, 50, 46, 51]⟩ : ByteArray)[2]'h).toNat = 46 := rfl
theorem at4_0 (h : 0 < (⟨#[50, 46, 51]⟩ : ByteArray).size) : ((⟨#[50, 46, 51]⟩ : ByteArray)[0]'h).toNat = 50 := rfl
theorem at4_1 (h : 1 < (⟨#[50, 46, 51]⟩ : ByteArray).size) : ((⟨#[50, 46, 51]⟩ : ByteArray)[1]'h).toNat = 46 := rfl
theorem at4_2 (h : 2 < (⟨#[50, 46, 51]⟩ : ByteArray).size) : ((⟨#[50, 46, 51]⟩ : ByteArray)[2]'h).toNat = 51 := rfl
theorem at5_0 (h : 0 < (⟨#[46, 51]⟩ : ByteArray).size) : ((⟨#[46, 51]⟩ : ByteArray)[0]'h).toNat = 46 := rfl
theorem at5_1 (h : 1 < (⟨#[46, 51]⟩ : ByteArray).size) : ((⟨#[46, 51]⟩ : ByteArray)[1]'h).toNat = 51 := rfl
theorem at6_0 (h : 0 < (⟨#[51]⟩ : ByteArray).size) : ((⟨#[51]⟩ : ByteArray)[0]'h).toNat = 51 := rfl
attribute [local go_sem] cut0 cut1 cut2 cut3 cut4 cut5 cut6 at0_0 at0_1 at0_2 at1_0 at1_1 at1_2 at2_0 at2_1 at2_2 at3_0 at3_1 at3_2 at4_0 at4_1 at4_2 at5_0 at5_1 at6_0

set_option maxHeartbeats 2000000 in
theorem begun_any (w : World) :
    Calls Try.prog 8 #[] w fun e w' => e = .returned (.bool true) ∧ w' = w := by
  go_enter Try.func8, Try.ntmps8
  go_wp2
  repeat ((first | (refine wp_loop_rounds 6 ?_; rw [rounds_succ]) | (rw [rounds_succ])); go_wp2)
  go_ret
  exact ⟨ret_bool (by decide +kernel), rfl⟩
end Go.Proofs.Ytenhofbhkchjoaa
