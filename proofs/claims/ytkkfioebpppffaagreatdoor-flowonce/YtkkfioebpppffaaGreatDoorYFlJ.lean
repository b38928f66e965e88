import Derived.Test.YtkkfioebpppffaaGreatDoorYFlG
namespace Go.Proofs.YtkkfioebpppffaaGreatDoor.Fl
open Go.Proofs.YtkkfioebpppffaaGreatDoor Go.ChangeShapes Go.WideShapes Go.ChangeAt Go.RowKit Go.Maps N
set_option maxHeartbeats 4000000
set_option maxRecDepth 100000
def spanF (st p : Nat) : Int := if st = 2 ∧ p = 1 then 30 else spN st

theorem ce_fw {w : World} {b : Nat} {f : Fw} {T : TypeId} {r : Nat × Nat} (hr : w.heap[b]? = some (.cells f.cells T r)) : w.cell? ⟨b, 2, none⟩ = some (.int .u8 (f.th.p : Int)) ∧ w.cell? ⟨b, 10, none⟩ = some (.int .i64 (f.st : Int)) ∧ w.cell? ⟨b, 11, none⟩ = some (.int .i64 f.til) := by
  refine ⟨?_, ?_, ?_⟩ <;> (rw [cell_of_row _ _ _ _ _ _ hr]; rfl)

theorem spanOf_any (f : Fw) (w : World) (hst : f.st < 10) (ht : TabF w) :
    Calls Tryz.prog 41 #[.agg f.cells] w fun e w' => e = .returned (.int .i64 (spanF f.st f.th.p)) ∧ Below w.heap.size w w' := by
  obtain ⟨w0, HW0⟩ : ∃ w0, Hid (w0 = w.alloc (.cells f.cells 45)) := ⟨_, rfl⟩
  have hb0 : Below w.heap.size w w0 := by rw [HW0.out]; exact (Below.refl _ _).alloc (Nat.le_refl _) _
  obtain ⟨b, HB⟩ : ∃ b, Hid (b = w.heap.size) := ⟨_, rfl⟩
  have r0 : w0.heap[b]? = some (.cells f.cells 45 (0, 0)) := by rw [HW0.out, HB.out]; exact heap_alloc_new w _
  obtain ⟨c2, c10, c11⟩ := ce_fw r0
  have cs := (ht.below hb0).sp f.st hst
  have HB0 := hid hb0
  have HR : Hid (spanF f.st f.th.p = if f.st = 2 ∧ f.th.p = 1 then 30 else spN f.st) := rfl
  have i1 : (f.st : Int) < 10 := by omega
  generalize spanF f.st f.th.p = R at *
  generalize spN f.st = sp at *
  generalize f.st = s at *
  generalize f.th.p = c at *
  generalize f.cells = fc at *
  clear hb0 r0 c11 ht hst
  by_cases h2 : s = 2
  · have q1 : ((s : Int) == 2) = true := by simp; omega
    by_cases h1 : c = 1
    · have q2 : ((c : Int) == 1) = true := by simp; omega
      have HE : Hid (R = 30) := by unfold Hid; rw [HR.out, if_pos ⟨h2, h1⟩]
      clear h1 h2 HR
      go_enter Tryz.func41, Tryz.ntmps41
      go_upto_region 1 with fail
      rw [← HW0.out, ← HB.out]
      go_wp2_with fail
      go_ret
      exact ⟨by rw [HE.out]; rfl, HB0.out⟩
    · have q2 : ((c : Int) == 1) = false := by simp; omega
      have HE : Hid (R = sp) := by unfold Hid; rw [HR.out, if_neg (fun h => h1 h.2)]
      clear h1 h2 HR
      go_enter Tryz.func41, Tryz.ntmps41
      go_upto_region 1 with fail
      rw [← HW0.out, ← HB.out]
      go_wp2_with fail
      go_ret
      exact ⟨by rw [HE.out]; rfl, HB0.out⟩
  · have q1 : ((s : Int) == 2) = false := by simp; omega
    have HE : Hid (R = sp) := by unfold Hid; rw [HR.out, if_neg (fun h => h2 h.1)]
    clear h2 HR
    go_enter Tryz.func41, Tryz.ntmps41
    go_upto_region 1 with fail
    rw [← HW0.out, ← HB.out]
    go_wp2_with fail
    go_ret
    exact ⟨by rw [HE.out]; rfl, HB0.out⟩
end Go.Proofs.YtkkfioebpppffaaGreatDoor.Fl
