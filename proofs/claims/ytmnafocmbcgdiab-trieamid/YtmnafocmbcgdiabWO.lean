/-
  Len, Nodes; the reference's New; slot; begun.
-/
import Derived.Test.YtmnafocmbcgdiabWN
namespace Go.Proofs.Ytmnafocmbcgdiab
open Go.ChangeShapes Go.WideShapes Go.ChangeAt Go.RowKit Tri N
set_option maxHeartbeats 1000000
set_option maxRecDepth 100000

theorem len_any {X : Nat → Prop} {tb : Nat} {t : Tr} (w : World) (hT : TrieAt w X tb t) :
    Calls Try.prog 16 #[.pointer (some ⟨tb, 0, none⟩)] w fun e w' => e = .returned (.int .i64 (vals t : Int)) ∧ Below w.heap.size w w' := by
  obtain ⟨_, _, ⟨m, hrow, hmt, hL⟩, _⟩ := hT
  subst hmt
  have t0 : w.cell? ⟨tb, 0, none⟩ = some m.ptr := by rw [cell_of_row _ _ _ _ _ _ hrow]; rfl
  have HC := hid (counted_any m w hL)
  clear hrow hL
  have hfl : ∀ u : World, (Instr.field 62 (.agg #[.int .i64 (vals m.tr : Int), .int .i64 (nodes m.tr : Int)]) 0).run Try.prog u = .ok (.int .i64 (vals m.tr : Int)) u := fun u => by kernel_rfl
  go_enter Try.func16, Try.ntmps16
  cases m <;> (
    unfold MT.ptr at t0 HC
    go_wp2_with fail
    refine HC.out.mono ?_
    rintro _ w1 ⟨rfl, hb⟩
    have HB := hid hb
    clear hb
    go_wp2_with fail
    go_ret
    exact ⟨rfl, HB.out⟩)

theorem nodes_any {X : Nat → Prop} {tb : Nat} {t : Tr} (w : World) (hT : TrieAt w X tb t) :
    Calls Try.prog 17 #[.pointer (some ⟨tb, 0, none⟩)] w fun e w' => e = .returned (.int .i64 (nodes t : Int)) ∧ Below w.heap.size w w' := by
  obtain ⟨_, _, ⟨m, hrow, hmt, hL⟩, _⟩ := hT
  subst hmt
  have t0 : w.cell? ⟨tb, 0, none⟩ = some m.ptr := by rw [cell_of_row _ _ _ _ _ _ hrow]; rfl
  have HC := hid (counted_any m w hL)
  clear hrow hL
  have hfl : ∀ u : World, (Instr.field 62 (.agg #[.int .i64 (vals m.tr : Int), .int .i64 (nodes m.tr : Int)]) 1).run Try.prog u = .ok (.int .i64 (nodes m.tr : Int)) u := fun u => by kernel_rfl
  go_enter Try.func17, Try.ntmps17
  cases m <;> (
    unfold MT.ptr at t0 HC
    go_wp2_with fail
    refine HC.out.mono ?_
    rintro _ w1 ⟨rfl, hb⟩
    have HB := hid hb
    clear hb
    go_wp2_with fail
    go_ret
    exact ⟨rfl, HB.out⟩)

theorem new_any (w : World) :
    Calls Try.prog 10 #[] w fun e w' => e = .returned (.pointer (some ⟨w.heap.size, 0, none⟩)) ∧ w' = w.alloc (.cells #[.pointer none] 50) := by
  go_enter Try.func10, Try.ntmps10
  go_wp2_with fail
  go_ret
  exact ⟨rfl, rfl⟩

theorem newR_any (w : World) :
    Calls Try.prog 27 #[] w fun e w' => e = .returned (.pointer (some ⟨w.heap.size, 0, none⟩)) ∧ w' = w.alloc (.cells #[.slice none 0 0] 92) := by
  go_enter Try.func27, Try.ntmps27
  go_wp2_with fail
  go_ret
  exact ⟨rfl, rfl⟩

def slotI (k : Int) : Int := if k < 0 then (-1 - k) % 8 else k % 8

theorem slotI_lt (k : Int) : 0 ≤ slotI k ∧ slotI k < 8 := by unfold slotI; split <;> omega

theorem slot_any (k : Int) (h1 : -9223372036854775808 ≤ k) (h2 : k ≤ 9223372036854775807) (w : World) :
    Calls Try.prog 34 #[.int .i64 k] w fun e w' => e = .returned (.int .i64 (slotI k)) ∧ Below w.heap.size w w' := by
  go_enter Try.func34, Try.ntmps34
  by_cases hk : k < 0
  · have HS : Hid (slotI k = (-1 - k) % 8) := by unfold Hid slotI; rw [if_pos hk]
    go_wp2_with fail
    go_ret
    exact ⟨ret_int (by rw [HS.out]), Below.refl _ _⟩
  · have HS : Hid (slotI k = k % 8) := by unfold Hid slotI; rw [if_neg hk]
    go_wp2_with fail
    go_ret
    exact ⟨ret_int (by rw [HS.out]), Below.refl _ _⟩
end Go.Proofs.Ytmnafocmbcgdiab
