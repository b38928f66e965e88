import Derived.Test.YtkoinngpmkmocaaDoorCA
import Derived.Deep.DeepCutAuto
namespace Go.Proofs.YtkoinngpmkmocaaDoor
open Go.ChangeShapes Go.WideShapes Go.ChangeAt Go.RowKit
set_option maxHeartbeats 400000
set_option maxRecDepth 100000

/-- The hosts' addresses are plain ones. -/
def plainAt (c : Cfg) (h : Nat) : Bool := decide (c.first + h < 4294967296) && (cls (c.first + h) == 0)
def plain (c : Cfg) : Bool := (List.range c.hosts.toNat).all (plainAt c)
/-- An address of a host's lies inside the network. -/
def insideAt (c : Cfg) (h : Nat) : Bool := has c.net c.nlen ((c.first + h) % 4294967296)
def inside (c : Cfg) : Bool := (List.range c.hosts.toNat).any (insideAt c)

theorem all_false {n j : Nat} {p : Nat → Bool} (hj : j < n) (h : p j = false) : (List.range n).all p = false := by
  rw [Bool.eq_false_iff]; intro e
  have := List.all_eq_true.1 e j (by simpa using hj)
  rw [h] at this; cases this
theorem all_true {n : Nat} {p : Nat → Bool} (h : ∀ j, j < n → p j = true) : (List.range n).all p = true :=
  List.all_eq_true.2 fun j hj => h j (by simpa using hj)
theorem any_true {n j : Nat} {p : Nat → Bool} (hj : j < n) (h : p j = true) : (List.range n).any p = true :=
  List.any_eq_true.2 ⟨j, by simpa using hj, h⟩
theorem any_false {n : Nat} {p : Nat → Bool} (h : ∀ j, j < n → p j = false) : (List.range n).any p = false := by
  rw [Bool.eq_false_iff]; intro e
  obtain ⟨j, hj, e⟩ := List.any_eq_true.1 e
  rw [h j (by simpa using hj)] at e; cases e

set_option maxHeartbeats 4000000 in
theorem hostsPlain_any (c : Cfg) (w : World) (ht : TabC w) (hh : 1 ≤ c.hosts ∧ c.hosts ≤ 64) :
    Calls Tryd.prog 51 #[.agg c.cells] w fun e w' => e = .returned (.bool (plain c)) ∧ Below w.heap.size w w' := by
  obtain ⟨wa, hwa⟩ : ∃ wa, wa = w.alloc (.cells c.cells 29) := ⟨_, rfl⟩
  have hb0 : Below w.heap.size w wa := by rw [hwa]; exact (Below.refl _ _).alloc (Nat.le_refl _) _
  have q := Cfg.at (w := w) c
  rw [← hwa] at q
  have q11 : ∀ u : Beh wa, u.wd.cell? ⟨w.heap.size, 11, none⟩ = some (.int .i64 c.hosts) := fun u => q u 11 (by omega)
  have q12 : ∀ u : Beh wa, u.wd.cell? ⟨w.heap.size, 12, none⟩ = some (.int .u32 (c.first : Int)) := fun u => q u 12 (by omega)
  have HT : Hid (∀ u : Beh wa, TabC u.wd) := fun u => ht.below (hb0.trans (u.ok.mono hb0.size))
  have HCL : Hid (∀ (u : Beh wa) (a : Nat), a < 4294967296 → Calls Tryd.prog 49 #[.int .u32 (a : Int)] u.wd fun e w' => e = .returned (.int .i64 (cls a)) ∧ ∃ u' : Beh wa, w' = u'.wd) := fun u a ha => Calls.beh (class_any a _ ha (HT.out u))
  have HF := hid c.hfirst
  obtain ⟨n, hn⟩ : ∃ n : Nat, c.hosts = (n : Int) := ⟨c.hosts.toNat, by omega⟩
  have HPL : Hid (plain c = (List.range n).all (plainAt c)) := by unfold Hid plain; rw [hn]; rfl
  have hn64 : n ≤ 64 := by omega
  unfold Cfg.cells at hwa ⊢
  rw [hn] at hwa q11 ⊢
  have HWA := hid hwa
  obtain ⟨u0, hu0⟩ : ∃ u0 : Beh wa, u0.wd = wa := ⟨⟨wa, Below.refl _ _⟩, rfl⟩
  have HU0 := hid hu0
  have HN := hid hn
  clear hwa hu0 q ht hn hh
  have hf := c.hfirst
  go_enter Tryd.func51, Tryd.ntmps51
  go_upto_region 1 with fail
  rw [← HWA.out, ← HU0.out]
  go_wp2_with fail
  go_loopw [7] (fun i wr => ∃ (j : Nat) (u : Beh wa), i = .int .i64 j ∧ j ≤ n ∧ wr = u.wd ∧ Hid (∀ h, h < j → plainAt c h = true)) (fun i _ => n - (intOf i).toNat)
  case atStart => exact ⟨0, u0, rfl, by omega, rfl, fun h hh => by omega⟩
  case round =>
    obtain ⟨j, u, rfl, hj, rfl, HJ⟩ := hrel
    by_cases hjn : j < n
    · by_cases hlt : c.first + j < 4294967296
      · have HC : Hid (Calls Tryd.prog 49 #[.int .u32 ((c.first : Int) + (j : Int))] u.wd fun e w' => e = .returned (.int .i64 (cls (c.first + j))) ∧ ∃ u' : Beh wa, w' = u'.wd) := by
          have := HCL.out u (c.first + j) hlt
          rw [Int.natCast_add] at this; exact this
        by_cases hc : cls (c.first + j) = 0
        · have hc' : (cls (c.first + j) != 0) = false := by rw [hc]; rfl
          have HP : Hid (plainAt c j = true) := by unfold Hid plainAt; simp [hlt, hc]
          clear hc
          generalize cls (c.first + j) = cl at HC hc'
          go_wp2_with fail
          refine HC.out.mono ?_
          rintro _ _ ⟨rfl, u1, rfl⟩
          go_wp2_with fail
          go_roundw
          case rel => exact ⟨j + 1, u1, by go_num, by omega, rfl, fun h hh => if e : h = j then by rw [e]; exact HP.out else HJ.out h (by omega)⟩
          case measure => simp [intOf]; omega
        · have hc' : (cls (c.first + j) != 0) = true := by simp [hc]
          have HP : Hid (plain c = false) := by unfold Hid; rw [HPL.out]; exact all_false hjn (by unfold plainAt; simp [hc])
          clear hc
          generalize cls (c.first + j) = cl at HC hc'
          go_wp2_with fail
          refine HC.out.mono ?_
          rintro _ _ ⟨rfl, u1, rfl⟩
          go_wp2_with fail
          go_ret
          exact ⟨ret_bool HP.out.symm, hb0.trans (u1.ok.mono hb0.size)⟩
      · have HP : Hid (plain c = false) := by unfold Hid; rw [HPL.out]; exact all_false hjn (by unfold plainAt; simp [hlt])
        go_wp2_with fail
        go_ret
        exact ⟨ret_bool HP.out.symm, hb0.trans (u.ok.mono hb0.size)⟩
    · have HP : Hid (plain c = true) := by unfold Hid; rw [HPL.out]; exact all_true fun h hh => HJ.out h (by omega)
      go_wp2_with fail
      go_ret
      exact ⟨ret_bool HP.out.symm, hb0.trans (u.ok.mono hb0.size)⟩

set_option maxHeartbeats 4000000 in
theorem hostIn_any (c : Cfg) (w : World) (hh : 1 ≤ c.hosts ∧ c.hosts ≤ 64) :
    Calls Tryd.prog 25 #[.agg c.cells] w fun e w' => e = .returned (.bool (inside c)) ∧ Below w.heap.size w w' := by
  obtain ⟨wa, hwa⟩ : ∃ wa, wa = w.alloc (.cells c.cells 29) := ⟨_, rfl⟩
  have hb0 : Below w.heap.size w wa := by rw [hwa]; exact (Below.refl _ _).alloc (Nat.le_refl _) _
  have q := Cfg.at (w := w) c
  rw [← hwa] at q
  have q0 : ∀ u : Beh wa, u.wd.cell? ⟨w.heap.size, 0, none⟩ = some (.int .u32 (c.net : Int)) := fun u => q u 0 (by omega)
  have q1 : ∀ u : Beh wa, u.wd.cell? ⟨w.heap.size, 1, none⟩ = some (.int .i64 c.nlen) := fun u => q u 1 (by omega)
  have q11 : ∀ u : Beh wa, u.wd.cell? ⟨w.heap.size, 11, none⟩ = some (.int .i64 c.hosts) := fun u => q u 11 (by omega)
  have q12 : ∀ u : Beh wa, u.wd.cell? ⟨w.heap.size, 12, none⟩ = some (.int .u32 (c.first : Int)) := fun u => q u 12 (by omega)
  have HCT : Hid (∀ (u : Beh wa) (A : Int) (a : Nat), A = (a : Int) → Calls Tryd.prog 52 #[.agg #[.int .u32 (c.net : Int), .int .i64 c.nlen], .int .u32 A] u.wd fun e w' => e = .returned (.bool (has c.net c.nlen a)) ∧ ∃ u' : Beh wa, w' = u'.wd) := fun u A a hA => by subst hA; exact Calls.beh (contains_any c.net c.nlen a _ c.hnet)
  obtain ⟨n, hn⟩ : ∃ n : Nat, c.hosts = (n : Int) := ⟨c.hosts.toNat, by omega⟩
  have HPL : Hid (inside c = (List.range n).any (insideAt c)) := by unfold Hid inside; rw [hn]; rfl
  have hn64 : n ≤ 64 := by omega
  unfold Cfg.cells at hwa ⊢
  rw [hn] at hwa q11 ⊢
  have HWA := hid hwa
  obtain ⟨u0, hu0⟩ : ∃ u0 : Beh wa, u0.wd = wa := ⟨⟨wa, Below.refl _ _⟩, rfl⟩
  have HU0 := hid hu0
  have HN := hid hn
  clear hwa hu0 q hn hh
  have hf := c.hfirst
  go_enter Tryd.func25, Tryd.ntmps25
  go_upto_region 1 with fail
  rw [← HWA.out, ← HU0.out]
  go_wp2_with fail
  go_loopw [6] (fun i wr => ∃ (j : Nat) (u : Beh wa), i = .int .i64 j ∧ j ≤ n ∧ wr = u.wd ∧ Hid (∀ h, h < j → insideAt c h = false)) (fun i _ => n - (intOf i).toNat)
  case atStart => exact ⟨0, u0, rfl, by omega, rfl, fun h hh => by omega⟩
  case round =>
    obtain ⟨j, u, rfl, hj, rfl, HJ⟩ := hrel
    by_cases hjn : j < n
    · by_cases hlt : c.first + j < 4294967296
      · have HC := hid (HCT.out u ((c.first : Int) + (j : Int)) (c.first + j) (by omega))
        have HI : Hid (insideAt c j = has c.net c.nlen (c.first + j)) := by unfold Hid insideAt; rw [Nat.mod_eq_of_lt hlt]
        generalize has c.net c.nlen (c.first + j) = b at HC HI
        go_wp2_with fail
        refine HC.out.mono ?_
        rintro _ _ ⟨rfl, u1, rfl⟩
        cases b
        · go_wp2_with fail
          go_roundw
          case rel => exact ⟨j + 1, u1, by go_num, by omega, rfl, fun h hh => if e : h = j then by rw [e]; exact HI.out else HJ.out h (by omega)⟩
          case measure => simp [intOf]; omega
        · have HP : Hid (inside c = true) := by unfold Hid; rw [HPL.out]; exact any_true hjn HI.out
          go_wp2_with fail
          go_ret
          exact ⟨ret_bool HP.out.symm, hb0.trans (u1.ok.mono hb0.size)⟩
      · have HI : Hid (insideAt c j = has c.net c.nlen (c.first + j - 4294967296)) := by unfold Hid insideAt; rw [show (c.first + j) % 4294967296 = c.first + j - 4294967296 from by omega]
        go_wp2_with fail
        refine (HCT.out u _ (c.first + j - 4294967296) ?_).mono ?_
        · omega
        rintro _ _ ⟨rfl, u1, rfl⟩
        generalize has c.net c.nlen (c.first + j - 4294967296) = b at HI ⊢
        cases b
        · go_wp2_with fail
          go_roundw
          case rel => exact ⟨j + 1, u1, by go_num, by omega, rfl, fun h hh => if e : h = j then by rw [e]; exact HI.out else HJ.out h (by omega)⟩
          case measure => simp [intOf]; omega
        · have HP : Hid (inside c = true) := by unfold Hid; rw [HPL.out]; exact any_true hjn HI.out
          go_wp2_with fail
          go_ret
          exact ⟨ret_bool HP.out.symm, hb0.trans (u1.ok.mono hb0.size)⟩
    · have HP : Hid (inside c = false) := by unfold Hid; rw [HPL.out]; exact any_false fun h hh => HJ.out h (by omega)
      go_wp2_with fail
      go_ret
      exact ⟨ret_bool HP.out.symm, hb0.trans (u.ok.mono hb0.size)⟩
end Go.Proofs.YtkoinngpmkmocaaDoor
