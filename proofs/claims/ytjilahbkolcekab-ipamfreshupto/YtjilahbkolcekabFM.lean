/-
  Names of numbers; subnets that are filled: what needs no memory.
-/
import Derived.Test.YtjilahbkolcekabEE
namespace Go.Proofs.Ytjilahbkolcekab
set_option maxHeartbeats 1000000
set_option maxRecDepth 100000

def dg (n i : Nat) : UInt8 := UInt8.ofNat (48 + n / 10 ^ i % 10)
/-- The name of a number. -/
def nmN (n : Nat) : ByteArray := ⟨#[112, dg n 0, dg n 1, dg n 2, dg n 3, dg n 4, dg n 5]⟩

theorem dg_val (n i : Nat) : (dg n i).toNat = 48 + n / 10 ^ i % 10 := by
  unfold dg
  rw [UInt8.toNat_ofNat']
  have : n / 10 ^ i % 10 < 10 := Nat.mod_lt _ (by omega)
  omega

theorem nmN_size (n : Nat) : (nmN n).size = 7 := rfl
theorem nmN_at (n i : Nat) (h : i < 7) : bOf (nmN n) i = if i = 0 then 112 else 48 + n / 10 ^ (i - 1) % 10 := by
  have hs : i < (nmN n).size := h
  rw [bOf_at hs]
  match i, h with
  | 0, _ => rfl
  | 1, _ => exact dg_val n 0
  | 2, _ => exact dg_val n 1
  | 3, _ => exact dg_val n 2
  | 4, _ => exact dg_val n 3
  | 5, _ => exact dg_val n 4
  | 6, _ => exact dg_val n 5

theorem nmN_name (n : Nat) : nmB (nmN n) = true := by
  unfold nmB
  rw [decide_eq_true_eq, nmN_size]
  refine ⟨by omega, by omega, ?_, ?_, fun i hi => ?_⟩
  · rw [nmN_at n 0 (by omega)]; simp
  · rw [nmN_at n 6 (by omega), if_neg (by omega)]
    have : n / 10 ^ (6 - 1) % 10 < 10 := Nat.mod_lt _ (by omega)
    omega
  · rw [nmN_at n i hi]
    unfold nbB
    rw [decide_eq_true_eq]
    split
    · omega
    · have : n / 10 ^ (i - 1) % 10 < 10 := Nat.mod_lt _ (by omega)
      omega

theorem nmN_inj {a b : Nat} (ha : a < 1000000) (hb : b < 1000000) (h : nmN a = nmN b) : a = b := by
  have key : ∀ i, i < 6 → a / 10 ^ i % 10 = b / 10 ^ i % 10 := fun i hi => by
    have h1 := nmN_at a (i + 1) (by omega)
    have h2 := nmN_at b (i + 1) (by omega)
    rw [h, h2, if_neg (by omega), if_neg (by omega)] at h1
    simp only [Nat.add_sub_cancel] at h1
    omega
  have k0 := key 0 (by omega)
  have k1 := key 1 (by omega)
  have k2 := key 2 (by omega)
  have k3 := key 3 (by omega)
  have k4 := key 4 (by omega)
  have k5 := key 5 (by omega)
  simp only [Nat.pow_zero, Nat.div_one, Nat.pow_one, show (10 : Nat) ^ 2 = 100 from rfl, show (10 : Nat) ^ 3 = 1000 from rfl, show (10 : Nat) ^ 4 = 10000 from rfl, show (10 : Nat) ^ 5 = 100000 from rfl] at k0 k1 k2 k3 k4 k5
  omega

theorem nmN_ne {n : Nat} {s : ByteArray} (h : s.size ≠ 7) : nmN n ≠ s := fun e => h (by rw [← e]; rfl)

/-- i pods, one behind the other. -/
def fil (b z i : Nat) : Ist := ⟨b, z, i + 1, (List.range i).map fun j => ⟨nmN j, b + 2 + j⟩⟩

theorem fil_len (b z i : Nat) : (fil b z i).S.length = i := by unfold fil; simp

theorem fil_byN {b z i n : Nat} (_hi : i ≤ 1024) (hn : n < 1000000) (h : i ≤ n) : (fil b z i).byN (nmN n) = none := by
  unfold Ist.byN fil
  rw [List.find?_eq_none]
  intro p hp
  obtain ⟨j, hj, rfl⟩ := List.mem_map.1 hp
  rw [List.mem_range] at hj
  simp only [decide_eq_true_eq]
  intro e
  have := nmN_inj (by omega) hn e
  omega
theorem fil_byN' {b z i : Nat} {s : ByteArray} (h : s.size ≠ 7) : (fil b z i).byN s = none := by
  unfold Ist.byN fil
  rw [List.find?_eq_none]
  intro p hp
  obtain ⟨j, hj, rfl⟩ := List.mem_map.1 hp
  simp only [decide_eq_true_eq]
  exact nmN_ne h

theorem fil_tk {b z i p : Nat} : (fil b z i).tk p = decide (2 ≤ p ∧ p < i + 2) := by
  unfold Ist.tk fil
  rw [decide_eq_decide]
  simp only [List.map_map, List.mem_map, List.mem_range, Function.comp]
  constructor
  · rintro ⟨j, hj, e⟩; omega
  · rintro ⟨h1, h2⟩; exact ⟨p - 2, by omega, by omega⟩

theorem fil_fr {b z i : Nat} (h : i + 4 ≤ z) : (fil b z i).fr = some (i + 2) := by
  unfold Ist.fr
  have e : nx z (i + 1) = i + 2 := by unfold nx; rw [if_neg (by omega)]
  have ez : (fil b z i).z = z := rfl
  have el : (fil b z i).l = i + 1 := rfl
  rw [ez, el, show 1025 = 1024 + 1 from rfl, srch, e, fil_tk, if_neg (by simp)]

theorem fil_add {b z i : Nat} (h : i + 4 ≤ z) (hi : i < 1024) : (fil b z i).addR (nmN i) = (b + (i + 2), 0, fil b z (i + 1)) := by
  unfold Ist.addR
  rw [if_neg (by rw [nmN_name]; simp), if_neg (by rw [fil_byN (by omega) (by omega) (Nat.le_refl _)]; simp), if_neg (by rw [fil_len]; omega), fil_fr h]
  show (b + (i + 2), (0 : Int), (fil b z i).add (nmN i) (i + 2)) = _
  congr 2
  unfold Ist.add fil
  simp only [Ist.mk.injEq, true_and]
  rw [List.range_succ, List.map_append]
  simp
  omega
end Go.Proofs.Ytjilahbkolcekab
