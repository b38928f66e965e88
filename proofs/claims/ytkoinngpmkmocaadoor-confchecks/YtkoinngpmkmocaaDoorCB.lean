import Derived.Test.YtkoinngpmkmocaaDoorCA
namespace Go.Proofs.YtkoinngpmkmocaaDoor
open Go.ChangeShapes Go.WideShapes Go.ChangeAt Go.RowKit
set_option maxHeartbeats 400000
set_option maxRecDepth 100000

/-- The plain numbers are in their ranges. -/
def nums (c : Cfg) : Bool := inb c.vni 0 16777215 && inb c.port 1 65535 && inb c.mtu 126 9000 && inb c.ttl 2 1099511627776 && inb c.renew 1 (c.ttl - 1) && inb c.log 1 256 && inb c.hosts 1 64 && inb c.routes 1 256 && inb c.neighs 1 256 && inb c.fdbs 1 256 && inb c.room 1 256

theorem inb_true {n lo hi : Int} (h : inb n lo hi = true) : lo ≤ n ∧ n ≤ hi := by unfold inb at h; simpa using h
theorem inb_false {n lo hi : Int} (h : inb n lo hi = false) : n < lo ∨ hi < n := by
  unfold inb at h
  by_cases e : lo ≤ n
  · simp [e] at h; exact .inr h
  · exact .inl (by omega)

set_option maxHeartbeats 8000000 in
theorem numbersFit_any (c : Cfg) (w : World) : Calls Tryd.prog 23 #[.agg c.cells] w fun e w' => e = .returned (.bool (nums c)) ∧ Below w.heap.size w w' := by
  obtain ⟨b, hb⟩ : ∃ b, b = nums c := ⟨_, rfl⟩
  rw [← hb]
  have HB := hid hb
  clear hb
  unfold Cfg.cells
  go_enter Tryd.func23, Tryd.ntmps23
  go_wp2_with fail
  refine wp_loop_rounds 12 ?_
  rw [rounds_succ]
  generalize hz : wrap64 (c.ttl - 1) = z
  have HZ := hid hz
  clear hz
  by_cases h0 : inb c.vni 0 16777215 = true
  case neg =>
    have h0f : inb c.vni 0 16777215 = false := by simpa using h0
    have HE : Hid (b = false) := by unfold Hid; rw [HB.out]; unfold nums; rw [h0f]; simp
    have h0g : c.vni < 0 ∨ 16777215 < c.vni := by have := inb_false h0f; omega
    clear h0 h0f
    rcases h0g with g | g
    · (
      go_wp2_with fail
      go_ret
      refine ⟨ret_bool (HE.out.symm), ?_⟩
      repeat (refine Below.alloc ?_ (by simp; try omega) _)
      exact Below.refl _ _)
    · have g' : ¬ c.vni < 0 := by omega
      (
      go_wp2_with fail
      go_ret
      refine ⟨ret_bool (HE.out.symm), ?_⟩
      repeat (refine Below.alloc ?_ (by simp; try omega) _)
      exact Below.refl _ _)
  have k0 : 0 ≤ c.vni ∧ c.vni ≤ 16777215 := by have := inb_true h0; omega
  obtain ⟨k0a, k0b⟩ := k0
  go_wp2_with fail
  rw [rounds_succ]
  by_cases h1 : inb c.port 1 65535 = true
  case neg =>
    have h1f : inb c.port 1 65535 = false := by simpa using h1
    have HE : Hid (b = false) := by unfold Hid; rw [HB.out]; unfold nums; rw [h1f]; simp
    have h1g : c.port < 1 ∨ 65535 < c.port := by have := inb_false h1f; omega
    clear h1 h1f
    rcases h1g with g | g
    · (
      go_wp2_with fail
      go_ret
      refine ⟨ret_bool (HE.out.symm), ?_⟩
      repeat (refine Below.alloc ?_ (by simp; try omega) _)
      exact Below.refl _ _)
    · have g' : ¬ c.port < 1 := by omega
      (
      go_wp2_with fail
      go_ret
      refine ⟨ret_bool (HE.out.symm), ?_⟩
      repeat (refine Below.alloc ?_ (by simp; try omega) _)
      exact Below.refl _ _)
  have k1 : 1 ≤ c.port ∧ c.port ≤ 65535 := by have := inb_true h1; omega
  obtain ⟨k1a, k1b⟩ := k1
  go_wp2_with fail
  rw [rounds_succ]
  by_cases h2 : inb c.mtu 126 9000 = true
  case neg =>
    have h2f : inb c.mtu 126 9000 = false := by simpa using h2
    have HE : Hid (b = false) := by unfold Hid; rw [HB.out]; unfold nums; rw [h2f]; simp
    have h2g : c.mtu < 126 ∨ 9000 < c.mtu := by have := inb_false h2f; omega
    clear h2 h2f
    rcases h2g with g | g
    · (
      go_wp2_with fail
      go_ret
      refine ⟨ret_bool (HE.out.symm), ?_⟩
      repeat (refine Below.alloc ?_ (by simp; try omega) _)
      exact Below.refl _ _)
    · have g' : ¬ c.mtu < 126 := by omega
      (
      go_wp2_with fail
      go_ret
      refine ⟨ret_bool (HE.out.symm), ?_⟩
      repeat (refine Below.alloc ?_ (by simp; try omega) _)
      exact Below.refl _ _)
  have k2 : 126 ≤ c.mtu ∧ c.mtu ≤ 9000 := by have := inb_true h2; omega
  obtain ⟨k2a, k2b⟩ := k2
  go_wp2_with fail
  rw [rounds_succ]
  by_cases h3 : inb c.ttl 2 1099511627776 = true
  case neg =>
    have h3f : inb c.ttl 2 1099511627776 = false := by simpa using h3
    have HE : Hid (b = false) := by unfold Hid; rw [HB.out]; unfold nums; rw [h3f]; simp
    have h3g : c.ttl < 2 ∨ 1099511627776 < c.ttl := by have := inb_false h3f; omega
    clear h3 h3f
    rcases h3g with g | g
    · (
      go_wp2_with fail
      go_ret
      refine ⟨ret_bool (HE.out.symm), ?_⟩
      repeat (refine Below.alloc ?_ (by simp; try omega) _)
      exact Below.refl _ _)
    · have g' : ¬ c.ttl < 2 := by omega
      (
      go_wp2_with fail
      go_ret
      refine ⟨ret_bool (HE.out.symm), ?_⟩
      repeat (refine Below.alloc ?_ (by simp; try omega) _)
      exact Below.refl _ _)
  have k3 : 2 ≤ c.ttl ∧ c.ttl ≤ 1099511627776 := by have := inb_true h3; omega
  obtain ⟨k3a, k3b⟩ := k3
  go_wp2_with fail
  rw [rounds_succ]
  by_cases h4 : inb c.renew 1 (c.ttl - 1) = true
  case neg =>
    have h4f : inb c.renew 1 (c.ttl - 1) = false := by simpa using h4
    have HE : Hid (b = false) := by unfold Hid; rw [HB.out]; unfold nums; rw [h4f]; simp
    have hzz : z = c.ttl - 1 := by have := HZ.out; have e := (inb_true h3); unfold wrap64 at this; omega
    have h4g : c.renew < 1 ∨ z < c.renew := by have := inb_false h4f; omega
    clear h4 h4f
    have hz1 : 1 ≤ z := by have e := (inb_true h3); omega
    clear hzz
    rcases h4g with g | g
    · (
      go_wp2_with fail
      go_ret
      refine ⟨ret_bool (HE.out.symm), ?_⟩
      repeat (refine Below.alloc ?_ (by simp; try omega) _)
      exact Below.refl _ _)
    · have g' : ¬ c.renew < 1 := by omega
      (
      go_wp2_with fail
      go_ret
      refine ⟨ret_bool (HE.out.symm), ?_⟩
      repeat (refine Below.alloc ?_ (by simp; try omega) _)
      exact Below.refl _ _)
  have k4 : 1 ≤ c.renew ∧ c.renew ≤ z := by have := inb_true h4; have e := HZ.out; have e3 := (inb_true h3); unfold wrap64 at e; omega
  obtain ⟨k4a, k4b⟩ := k4
  go_wp2_with fail
  rw [rounds_succ]
  by_cases h5 : inb c.log 1 256 = true
  case neg =>
    have h5f : inb c.log 1 256 = false := by simpa using h5
    have HE : Hid (b = false) := by unfold Hid; rw [HB.out]; unfold nums; rw [h5f]; simp
    have h5g : c.log < 1 ∨ 256 < c.log := by have := inb_false h5f; omega
    clear h5 h5f
    rcases h5g with g | g
    · (
      go_wp2_with fail
      go_ret
      refine ⟨ret_bool (HE.out.symm), ?_⟩
      repeat (refine Below.alloc ?_ (by simp; try omega) _)
      exact Below.refl _ _)
    · have g' : ¬ c.log < 1 := by omega
      (
      go_wp2_with fail
      go_ret
      refine ⟨ret_bool (HE.out.symm), ?_⟩
      repeat (refine Below.alloc ?_ (by simp; try omega) _)
      exact Below.refl _ _)
  have k5 : 1 ≤ c.log ∧ c.log ≤ 256 := by have := inb_true h5; omega
  obtain ⟨k5a, k5b⟩ := k5
  go_wp2_with fail
  rw [rounds_succ]
  by_cases h6 : inb c.hosts 1 64 = true
  case neg =>
    have h6f : inb c.hosts 1 64 = false := by simpa using h6
    have HE : Hid (b = false) := by unfold Hid; rw [HB.out]; unfold nums; rw [h6f]; simp
    have h6g : c.hosts < 1 ∨ 64 < c.hosts := by have := inb_false h6f; omega
    clear h6 h6f
    rcases h6g with g | g
    · (
      go_wp2_with fail
      go_ret
      refine ⟨ret_bool (HE.out.symm), ?_⟩
      repeat (refine Below.alloc ?_ (by simp; try omega) _)
      exact Below.refl _ _)
    · have g' : ¬ c.hosts < 1 := by omega
      (
      go_wp2_with fail
      go_ret
      refine ⟨ret_bool (HE.out.symm), ?_⟩
      repeat (refine Below.alloc ?_ (by simp; try omega) _)
      exact Below.refl _ _)
  have k6 : 1 ≤ c.hosts ∧ c.hosts ≤ 64 := by have := inb_true h6; omega
  obtain ⟨k6a, k6b⟩ := k6
  go_wp2_with fail
  rw [rounds_succ]
  by_cases h7 : inb c.routes 1 256 = true
  case neg =>
    have h7f : inb c.routes 1 256 = false := by simpa using h7
    have HE : Hid (b = false) := by unfold Hid; rw [HB.out]; unfold nums; rw [h7f]; simp
    have h7g : c.routes < 1 ∨ 256 < c.routes := by have := inb_false h7f; omega
    clear h7 h7f
    rcases h7g with g | g
    · (
      go_wp2_with fail
      go_ret
      refine ⟨ret_bool (HE.out.symm), ?_⟩
      repeat (refine Below.alloc ?_ (by simp; try omega) _)
      exact Below.refl _ _)
    · have g' : ¬ c.routes < 1 := by omega
      (
      go_wp2_with fail
      go_ret
      refine ⟨ret_bool (HE.out.symm), ?_⟩
      repeat (refine Below.alloc ?_ (by simp; try omega) _)
      exact Below.refl _ _)
  have k7 : 1 ≤ c.routes ∧ c.routes ≤ 256 := by have := inb_true h7; omega
  obtain ⟨k7a, k7b⟩ := k7
  go_wp2_with fail
  rw [rounds_succ]
  by_cases h8 : inb c.neighs 1 256 = true
  case neg =>
    have h8f : inb c.neighs 1 256 = false := by simpa using h8
    have HE : Hid (b = false) := by unfold Hid; rw [HB.out]; unfold nums; rw [h8f]; simp
    have h8g : c.neighs < 1 ∨ 256 < c.neighs := by have := inb_false h8f; omega
    clear h8 h8f
    rcases h8g with g | g
    · (
      go_wp2_with fail
      go_ret
      refine ⟨ret_bool (HE.out.symm), ?_⟩
      repeat (refine Below.alloc ?_ (by simp; try omega) _)
      exact Below.refl _ _)
    · have g' : ¬ c.neighs < 1 := by omega
      (
      go_wp2_with fail
      go_ret
      refine ⟨ret_bool (HE.out.symm), ?_⟩
      repeat (refine Below.alloc ?_ (by simp; try omega) _)
      exact Below.refl _ _)
  have k8 : 1 ≤ c.neighs ∧ c.neighs ≤ 256 := by have := inb_true h8; omega
  obtain ⟨k8a, k8b⟩ := k8
  go_wp2_with fail
  rw [rounds_succ]
  by_cases h9 : inb c.fdbs 1 256 = true
  case neg =>
    have h9f : inb c.fdbs 1 256 = false := by simpa using h9
    have HE : Hid (b = false) := by unfold Hid; rw [HB.out]; unfold nums; rw [h9f]; simp
    have h9g : c.fdbs < 1 ∨ 256 < c.fdbs := by have := inb_false h9f; omega
    clear h9 h9f
    rcases h9g with g | g
    · (
      go_wp2_with fail
      go_ret
      refine ⟨ret_bool (HE.out.symm), ?_⟩
      repeat (refine Below.alloc ?_ (by simp; try omega) _)
      exact Below.refl _ _)
    · have g' : ¬ c.fdbs < 1 := by omega
      (
      go_wp2_with fail
      go_ret
      refine ⟨ret_bool (HE.out.symm), ?_⟩
      repeat (refine Below.alloc ?_ (by simp; try omega) _)
      exact Below.refl _ _)
  have k9 : 1 ≤ c.fdbs ∧ c.fdbs ≤ 256 := by have := inb_true h9; omega
  obtain ⟨k9a, k9b⟩ := k9
  go_wp2_with fail
  rw [rounds_succ]
  by_cases h10 : inb c.room 1 256 = true
  case neg =>
    have h10f : inb c.room 1 256 = false := by simpa using h10
    have HE : Hid (b = false) := by unfold Hid; rw [HB.out]; unfold nums; rw [h10f]; simp
    have h10g : c.room < 1 ∨ 256 < c.room := by have := inb_false h10f; omega
    clear h10 h10f
    rcases h10g with g | g
    · (
      go_wp2_with fail
      go_ret
      refine ⟨ret_bool (HE.out.symm), ?_⟩
      repeat (refine Below.alloc ?_ (by simp; try omega) _)
      exact Below.refl _ _)
    · have g' : ¬ c.room < 1 := by omega
      (
      go_wp2_with fail
      go_ret
      refine ⟨ret_bool (HE.out.symm), ?_⟩
      repeat (refine Below.alloc ?_ (by simp; try omega) _)
      exact Below.refl _ _)
  have k10 : 1 ≤ c.room ∧ c.room ≤ 256 := by have := inb_true h10; omega
  obtain ⟨k10a, k10b⟩ := k10
  go_wp2_with fail
  rw [rounds_succ]
  have HE : Hid (b = true) := by unfold Hid; rw [HB.out]; unfold nums; simp [h0, h1, h2, h3, h4, h5, h6, h7, h8, h9, h10]
  go_wp2_with fail
  go_ret
  refine ⟨ret_bool (HE.out.symm), ?_⟩
  repeat (refine Below.alloc ?_ (by simp; try omega) _)
  exact Below.refl _ _
end Go.Proofs.YtkoinngpmkmocaaDoor
