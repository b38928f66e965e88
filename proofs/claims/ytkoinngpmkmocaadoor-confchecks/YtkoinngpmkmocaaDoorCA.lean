/-
  Configurations; small calls.
-/
import Derived.Test.YtkoinngpmkmocaaDoorO
namespace Go.Proofs.YtkoinngpmkmocaaDoor
open Go.ChangeShapes Go.WideShapes Go.ChangeAt Go.RowKit
set_option maxHeartbeats 400000
set_option maxRecDepth 100000

/-- A configuration; the reserved subnets by their slice. -/
structure Cfg where
  net : Nat
  nlen : Int
  slen : Int
  min : Nat
  max : Nat
  vni : Int
  port : Int
  mtu : Int
  ttl : Int
  renew : Int
  log : Int
  hosts : Int
  first : Nat
  routes : Int
  neighs : Int
  fdbs : Int
  room : Int
  rv : Value
  hnet : net < 4294967296
  hmin : min < 4294967296
  hmax : max < 4294967296
  hfirst : first < 4294967296
  httl : -9223372036854775808 ≤ ttl ∧ ttl ≤ 9223372036854775807
  hnlen : -9223372036854775808 ≤ nlen ∧ nlen ≤ 9223372036854775807
  hhosts : -9223372036854775808 ≤ hosts ∧ hosts ≤ 9223372036854775807

def Cfg.cells (c : Cfg) : Array Value := #[.int .u32 c.net, .int .i64 c.nlen, .int .i64 c.slen, .int .u32 c.min, .int .u32 c.max, .int .i64 c.vni, .int .i64 c.port, .int .i64 c.mtu, .int .i64 c.ttl, .int .i64 c.renew, .int .i64 c.log, .int .i64 c.hosts, .int .u32 c.first, .int .i64 c.routes, .int .i64 c.neighs, .int .i64 c.fdbs, .int .i64 c.room, c.rv]

/-- A configuration's variable. -/
theorem Cfg.at {w : World} (c : Cfg) : ∀ u : Beh (w.alloc (.cells c.cells 29)), ∀ i (hi : i < 18), u.wd.cell? ⟨w.heap.size, i, none⟩ = some (c.cells[i]'hi) := by
  intro u i hi
  have hr : (w.alloc (.cells c.cells 29)).heap[w.heap.size]? = some (.cells c.cells 29 (0, 0)) := heap_alloc_new w _
  have r := (u.ok.block w.heap.size (by simp)).trans hr
  rw [cell_of_row _ _ _ _ _ _ r]
  exact Array.getElem?_eq_getElem _

def inb (n lo hi : Int) : Bool := decide (lo ≤ n) && decide (n ≤ hi)

theorem in_any (n lo hi : Int) (w : World) : Calls Tryd.prog 29 #[.int .i64 n, .int .i64 lo, .int .i64 hi] w fun e w' => e = .returned (.bool (inb n lo hi)) ∧ w' = w := by
  by_cases h1 : lo ≤ n
  · by_cases h2 : n ≤ hi
    · have HE : Hid (inb n lo hi = true) := by unfold Hid inb; simp [h1, h2]
      go_enter Tryd.func29, Tryd.ntmps29
      go_wp2
      go_ret
      exact ⟨ret_bool HE.out.symm, rfl⟩
    · have HE : Hid (inb n lo hi = false) := by unfold Hid inb; simp [h2]
      go_enter Tryd.func29, Tryd.ntmps29
      go_wp2
      go_ret
      exact ⟨ret_bool HE.out.symm, rfl⟩
  · have HE : Hid (inb n lo hi = false) := by unfold Hid inb; simp [h1]
    go_enter Tryd.func29, Tryd.ntmps29
    go_wp2
    go_ret
    exact ⟨ret_bool HE.out.symm, rfl⟩

theorem sizeR_any (n : Int) (k : Nat) (w : World) (h0 : n = 32 - (k : Int)) (h1 : k ≤ 32) : Calls Tryd.prog 56 #[.int .i64 n] w fun e w' => e = .returned (.int .i64 ((2 ^ k : Nat) : Int)) ∧ w' = w := by
  subst h0
  have hk : k < 33 := by omega
  have HP : Hid (∀ m : Nat, m < 33 → wrap64 (2 ^ m) = ((2 ^ m : Nat) : Int)) := by unfold Hid; decide +kernel
  go_enter Tryd.func56, Tryd.ntmps56
  go_wp2
  go_ret
  refine ⟨ret_int ?_, rfl⟩
  rw [show 32 - (32 - k) = k from by omega]
  exact HP.out k hk

/-- Whether a subnet of the network begins at a. -/
def sub (c : Cfg) (a : Nat) : Bool := (err (a, c.slen) == 0) && has c.net c.nlen a

set_option maxHeartbeats 2000000 in
theorem isSubnet_any (c : Cfg) (a : Nat) (w : World) (ha : a < 4294967296) :
    Calls Tryd.prog 50 #[.agg c.cells, .int .u32 (a : Int)] w fun e w' => e = .returned (.bool (sub c a)) ∧ Below w.heap.size w w' := by
  obtain ⟨wa, hwa⟩ : ∃ wa, wa = w.alloc (.cells c.cells 29) := ⟨_, rfl⟩
  have hb0 : Below w.heap.size w wa := by rw [hwa]; exact (Below.refl _ _).alloc (Nat.le_refl _) _
  have q := Cfg.at (w := w) c
  rw [← hwa] at q
  have q0 : ∀ u : Beh wa, u.wd.cell? ⟨w.heap.size, 0, none⟩ = some (.int .u32 (c.net : Int)) := fun u => q u 0 (by omega)
  have q1 : ∀ u : Beh wa, u.wd.cell? ⟨w.heap.size, 1, none⟩ = some (.int .i64 c.nlen) := fun u => q u 1 (by omega)
  have q2 : ∀ u : Beh wa, u.wd.cell? ⟨w.heap.size, 2, none⟩ = some (.int .i64 c.slen) := fun u => q u 2 (by omega)
  have HV : Hid (∀ u : Beh wa, Calls Tryd.prog 48 #[.agg #[.int .u32 (a : Int), .int .i64 c.slen]] u.wd fun e w' => e = .returned (.bool (err (a, c.slen) == 0)) ∧ ∃ u' : Beh wa, w' = u'.wd) := fun u => Calls.beh (valid_any a c.slen _ ha)
  have HC : Hid (∀ u : Beh wa, Calls Tryd.prog 52 #[.agg #[.int .u32 (c.net : Int), .int .i64 c.nlen], .int .u32 (a : Int)] u.wd fun e w' => e = .returned (.bool (has c.net c.nlen a)) ∧ ∃ u' : Beh wa, w' = u'.wd) := fun u => Calls.beh (contains_any c.net c.nlen a _ c.hnet)
  unfold Cfg.cells at hwa ⊢
  have HWA := hid hwa
  obtain ⟨u0, hu0⟩ : ∃ u0 : Beh wa, u0.wd = wa := ⟨⟨wa, Below.refl _ _⟩, rfl⟩
  have HU0 := hid hu0
  clear hwa hu0 q
  cases hv : (err (a, c.slen) == 0)
  · have HE : Hid (sub c a = false) := by unfold Hid sub; rw [hv]; rfl
    rw [hv] at HV
    clear hv
    go_enter Tryd.func50, Tryd.ntmps50
    go_wp2_with fail
    rw [← HWA.out, ← HU0.out]
    refine (HV.out u0).mono ?_
    rintro _ _ ⟨rfl, u1, rfl⟩
    go_wp2_with fail
    go_ret
    exact ⟨ret_bool HE.out.symm, hb0.trans (u1.ok.mono hb0.size)⟩
  · have HE : Hid (sub c a = has c.net c.nlen a) := by unfold Hid sub; rw [hv]; rfl
    rw [hv] at HV
    clear hv
    generalize has c.net c.nlen a = b at HC HE
    go_enter Tryd.func50, Tryd.ntmps50
    go_wp2_with fail
    rw [← HWA.out, ← HU0.out]
    refine (HV.out u0).mono ?_
    rintro _ _ ⟨rfl, u1, rfl⟩
    go_wp2_with fail
    refine (HC.out u1).mono ?_
    rintro _ _ ⟨rfl, u2, rfl⟩
    go_wp2_with fail
    go_ret
    exact ⟨ret_bool HE.out.symm, hb0.trans (u2.ok.mono hb0.size)⟩

theorem err_in {a : Nat} {n : Int} {k : Nat} (hn : n = 32 - (k : Int)) (hk : k ≤ 32) : (err (a, n) == 0) = decide (a % 2 ^ k = 0) := by
  unfold err
  rw [if_neg (by simp; omega)]
  simp only
  rw [show 32 - n.toNat = k from by omega]
  by_cases h : a % 2 ^ k = 0
  · rw [if_pos h]; simp [h]
  · rw [if_neg h]; simp [h]

set_option maxHeartbeats 2000000 in
theorem base_any (c : Cfg) (a : Nat) (w : World) (ha : a < 4294967296) (hs : 0 ≤ c.slen ∧ c.slen ≤ 32) :
    Calls Tryd.prog 30 #[.agg c.cells, .int .u32 (a : Int)] w fun e w' => e = .returned (.bool (sub c a)) ∧ Below w.heap.size w w' := by
  obtain ⟨wa, hwa⟩ : ∃ wa, wa = w.alloc (.cells c.cells 29) := ⟨_, rfl⟩
  have hb0 : Below w.heap.size w wa := by rw [hwa]; exact (Below.refl _ _).alloc (Nat.le_refl _) _
  have q := Cfg.at (w := w) c
  rw [← hwa] at q
  have q0 : ∀ u : Beh wa, u.wd.cell? ⟨w.heap.size, 0, none⟩ = some (.int .u32 (c.net : Int)) := fun u => q u 0 (by omega)
  have q1 : ∀ u : Beh wa, u.wd.cell? ⟨w.heap.size, 1, none⟩ = some (.int .i64 c.nlen) := fun u => q u 1 (by omega)
  obtain ⟨k, hk, hk32⟩ : ∃ k : Nat, c.slen = 32 - (k : Int) ∧ k ≤ 32 := ⟨(32 - c.slen).toNat, by omega, by omega⟩
  have HV : Hid (∀ u : Beh wa, Calls Tryd.prog 56 #[.int .i64 c.slen] u.wd fun e w' => e = .returned (.int .i64 ((2 ^ k : Nat) : Int)) ∧ ∃ u' : Beh wa, w' = u'.wd) := fun u => Calls.beh ((sizeR_any c.slen k _ hk hk32).mono fun e w' ⟨h1, h2⟩ => ⟨h1, by rw [h2]; exact Below.refl _ _⟩)
  have HC : Hid (∀ u : Beh wa, Calls Tryd.prog 28 #[.agg #[.int .u32 (c.net : Int), .int .i64 c.nlen], .int .u32 (a : Int)] u.wd fun e w' => e = .returned (.bool (has c.net c.nlen a)) ∧ ∃ u' : Beh wa, w' = u'.wd) := fun u => Calls.beh (refContains_any c.net c.nlen a _ c.hnet)
  unfold Cfg.cells at hwa ⊢
  have HWA := hid hwa
  obtain ⟨u0, hu0⟩ : ∃ u0 : Beh wa, u0.wd = wa := ⟨⟨wa, Below.refl _ _⟩, rfl⟩
  have HU0 := hid hu0
  have hpos : 0 < 2 ^ k := Nat.two_pow_pos k
  have HEQ : Hid (sub c a = (decide (a % 2 ^ k = 0) && has c.net c.nlen a)) := by unfold Hid sub; rw [err_in hk hk32]
  have HK := hid hk
  clear hwa hu0 q hk
  generalize 2 ^ k = P at HV HEQ hpos
  generalize has c.net c.nlen a = b at HC HEQ
  by_cases hm : a % P = 0
  · have HE : Hid (sub c a = b) := by unfold Hid; rw [HEQ.out]; simp [hm]
    have hm' : ((a : Int) % (P : Int) == 0) = true := by
      rw [← Int.natCast_emod, hm]; rfl
    clear hm
    go_enter Tryd.func30, Tryd.ntmps30
    go_wp2_with fail
    rw [← HWA.out, ← HU0.out]
    refine (HV.out u0).mono ?_
    rintro _ _ ⟨rfl, u1, rfl⟩
    go_wp2_with fail
    refine (HC.out u1).mono ?_
    rintro _ _ ⟨rfl, u2, rfl⟩
    go_wp2_with fail
    go_ret
    exact ⟨ret_bool HE.out.symm, hb0.trans (u2.ok.mono hb0.size)⟩
  · have HE : Hid (sub c a = false) := by unfold Hid; rw [HEQ.out]; simp [hm]
    have hm' : ((a : Int) % (P : Int) == 0) = false := by
      rw [← Int.natCast_emod, beq_eq_false_iff_ne]; omega
    clear hm
    go_enter Tryd.func30, Tryd.ntmps30
    go_wp2_with fail
    rw [← HWA.out, ← HU0.out]
    refine (HV.out u0).mono ?_
    rintro _ _ ⟨rfl, u1, rfl⟩
    go_wp2_with fail
    go_ret
    exact ⟨ret_bool HE.out.symm, hb0.trans (u1.ok.mono hb0.size)⟩
end Go.Proofs.YtkoinngpmkmocaaDoor
