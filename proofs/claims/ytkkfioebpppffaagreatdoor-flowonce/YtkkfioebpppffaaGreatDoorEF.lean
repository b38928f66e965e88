import Derived.Test.YtkkfioebpppffaaGreatDoorRows
import Derived.WalkKit
import Derived.ProofKit
import Derived.OpenShut
import Derived.Deep.QuietTactic
import Derived.BigQuiet
import Derived.Maps.OwnSet
import Derived.Maps.OwnOps
import Derived.Deep.MidRow
import Derived.Deep.CutRange
import Derived.Deep.RegionWith
import Derived.Deep.RegionHeld3
import Derived.Laws.MakeOwn
import Derived.Laws.AppendOwnNone
namespace Go.Proofs.YtkkfioebpppffaaGreatDoor.Tm
open Go.ChangeShapes Go.WideShapes Go.ChangeAt Go.RowKit
set_option maxHeartbeats 400000
set_option maxRecDepth 100000

theorem hid {p : Prop} (h : p) : Hid p := h
theorem ret_int {k : IntKind} {a b : Int} (h : a = b) : Ending.returned (.int k a) = .returned (.int k b) := by rw [h]
theorem ret_bool {a b : Bool} (h : a = b) : Ending.returned (.bool a) = .returned (.bool b) := by rw [h]

/-- A sum that stops at the ends of int64. -/
def aft (a b : Int) : Int := if a + b > 9223372036854775807 then 9223372036854775807 else if a + b < -9223372036854775808 then -9223372036854775808 else a + b

structure In64 (a : Int) : Prop where
  lo : -9223372036854775808 ≤ a
  hi : a ≤ 9223372036854775807

theorem aft_comm (a b : Int) : aft a b = aft b a := by unfold aft; rw [Int.add_comm]

theorem after_code (a b : Int) (w : World) (ha : In64 a) (hb : In64 b) :
    Calls Tryz.prog 40 #[.int .i64 a, .int .i64 b] w fun e w' => e = .returned (.int .i64 (aft a b)) ∧ w' = w := by
  obtain ⟨a1, a2⟩ := ha
  obtain ⟨b1, b2⟩ := hb
  have HA : Hid (aft a b = if a + b > 9223372036854775807 then 9223372036854775807 else if a + b < -9223372036854775808 then -9223372036854775808 else a + b) := rfl
  generalize aft a b = R at *
  go_enter Tryz.func40, Tryz.ntmps40
  by_cases h1 : 0 < b
  · by_cases h2 : 9223372036854775807 - b < a
    · go_wp2_with fail
      go_ret
      exact ⟨ret_int (by rw [HA.out, if_pos (by omega)]), rfl⟩
    · have h3 : ¬ b < 0 := by omega
      go_wp2_with fail
      go_ret
      exact ⟨ret_int (by rw [HA.out, if_neg (by omega), if_neg (by omega)]), rfl⟩
  · by_cases h2 : b < 0
    · by_cases h3 : a < -9223372036854775808 - b
      · go_wp2_with fail
        go_ret
        exact ⟨ret_int (by rw [HA.out, if_neg (by omega), if_pos (by omega)]), rfl⟩
      · go_wp2_with fail
        go_ret
        exact ⟨ret_int (by rw [HA.out, if_neg (by omega), if_neg (by omega)]), rfl⟩
    · go_wp2_with fail
      go_ret
      exact ⟨ret_int (by rw [HA.out, if_neg (by omega), if_neg (by omega)]), rfl⟩

theorem tdiv_facts (a : Int) : ∃ A r : Int, a.tdiv 4294967296 = A ∧ a.tmod 4294967296 = r ∧ a = A * 4294967296 + r ∧ -4294967296 < r ∧ r < 4294967296 := by
  refine ⟨_, _, rfl, rfl, ?_, ?_, ?_⟩
  · have := Int.mul_tdiv_add_tmod a 4294967296
    omega
  · by_cases h : 0 ≤ a
    · have := Int.tmod_nonneg 4294967296 h
      omega
    · have h1 := Int.neg_tmod (a := -a) (b := 4294967296)
      have h2 := Int.tmod_lt_of_pos (-a) (b := 4294967296) (by omega)
      rw [Int.neg_neg] at h1
      omega
  · exact Int.tmod_lt_of_pos a (by omega)

theorem tdiv_bounds (a : Int) (a1 : -9223372036854775808 ≤ a) (a2 : a ≤ 9223372036854775807) : ∃ A, a.tdiv 4294967296 = A ∧ -4294967296 < a - A * 4294967296 ∧ a - A * 4294967296 < 4294967296 ∧ -2147483648 ≤ A ∧ A ≤ 2147483647 := by
  obtain ⟨A, ra, hA, hr, eA, A1, A2⟩ := tdiv_facts a
  refine ⟨A, hA, by omega, by omega, ?_, ?_⟩
  · by_cases h : 0 ≤ a
    · omega
    · have h1 := Int.neg_tmod (a := -a) (b := 4294967296)
      have h2 := Int.tmod_nonneg (a := -a) 4294967296 (by omega)
      rw [Int.neg_neg] at h1
      omega
  · by_cases h : 0 ≤ a
    · have := Int.tmod_nonneg 4294967296 h
      omega
    · omega

end Go.Proofs.YtkkfioebpppffaaGreatDoor.Tm

namespace Go.Proofs.YtkkfioebpppffaaGreatDoor.Tm.H

/-- An id and a time. -/
abbrev Dl := Int × Int

def Lt (a b : Dl) : Prop := a.2 < b.2 ∨ (a.2 = b.2 ∧ a.1 < b.1)
def Le (a b : Dl) : Prop := ¬ Lt b a

theorem Le.iff {a b : Dl} : Le a b ↔ a.2 < b.2 ∨ (a.2 = b.2 ∧ a.1 ≤ b.1) := by unfold Le Lt; omega
theorem Le.trans {a b c : Dl} (h1 : Le a b) (h2 : Le b c) : Le a c := by rw [Le.iff] at *; omega
theorem Le.refl (a : Dl) : Le a a := by rw [Le.iff]; omega
theorem Lt.le {a b : Dl} (h : Lt a b) : Le a b := by rw [Le.iff]; unfold Lt at h; omega
theorem Le.antisymm {a b : Dl} (h1 : Le a b) (h2 : Le b a) : a = b := by
  rw [Le.iff] at *
  apply Prod.ext <;> omega
theorem Lt.or (a b : Dl) : Lt a b ∨ Le b a := by unfold Le; exact Classical.em _

def upd {α : Type} (h : Nat → α) (p : Nat) (x : α) : Nat → α := fun i => if i = p then x else h i
theorem upd_same {α : Type} (h : Nat → α) (p : Nat) (x : α) : upd h p x p = x := by simp [upd]
theorem upd_ne {α : Type} (h : Nat → α) {p i : Nat} (x : α) (hi : i ≠ p) : upd h p x i = h i := by simp [upd, hi]

def put (f : Int → Option Nat) (x : Int) (p : Nat) : Int → Option Nat := fun y => if y = x then some p else f y
def del (f : Int → Option Nat) (x : Int) : Int → Option Nat := fun y => if y = x then none else f y

/-- j lies right below i. -/
def E (i j : Nat) : Prop := j = 2 * i + 1 ∨ j = 2 * i + 2

theorem E.up {p : Nat} (hp : 0 < p) : E ((p - 1) / 2) p := by unfold E; omega
theorem E.uniq {i k j : Nat} (h1 : E i j) (h2 : E k j) : i = k := by unfold E at *; omega
theorem E.ne {i j : Nat} (h : E i j) : i ≠ j := by unfold E at h; omega

def Inj (n : Nat) (h : Nat → Dl) : Prop := ∀ i j, i < n → j < n → (h i).1 = (h j).1 → i = j
def Mem (n : Nat) (h : Nat → Dl) (x : Dl) : Prop := ∃ i, i < n ∧ h i = x

structure Heap (n : Nat) (h : Nat → Dl) (f : Int → Option Nat) : Prop where
  inj : Inj n h
  place : ∀ i, i < n → f (h i).1 = some i
  dom : ∀ x k, f x = some k → k < n ∧ (h k).1 = x
  edge : ∀ i j, E i j → j < n → Le (h i) (h j)

/-- All but the place p stands as in a heap; d is to come in. -/
structure Hole (n : Nat) (h : Nat → Dl) (f : Int → Option Nat) (p : Nat) (d : Dl) : Prop where
  lt : p < n
  inj : Inj n (upd h p d)
  place : ∀ i, i < n → i ≠ p → f (h i).1 = some i
  dom : ∀ x k, f x = some k → ∃ i, i < n ∧ (upd h p d i).1 = x
  edge : ∀ i j, E i j → j < n → i ≠ p → j ≠ p → Le (h i) (h j)
  byp : ∀ i c, E i p → E p c → c < n → Le (h i) (h c)

/-- The hole moves from p to q: what stood at q stands at p then. -/
theorem Hole.move_inj {n : Nat} {h : Nat → Dl} {f : Int → Option Nat} {p q : Nat} {d : Dl} (H : Hole n h f p d) (hq : q < n) (hne : q ≠ p) :
    Inj n (upd (upd h p (h q)) q d) ∧ (∀ x, Mem n (upd (upd h p (h q)) q d) x ↔ Mem n (upd h p d) x) := by
  have key : ∀ i, ∃ j, (i < n → j < n) ∧ upd (upd h p (h q)) q d i = upd h p d j ∧ (j = if i = p then q else if i = q then p else i) := by
    intro i
    by_cases h1 : i = p
    · exact ⟨q, fun _ => hq, by rw [h1, upd_ne _ _ (Ne.symm hne), upd_same, upd_ne _ _ hne], by simp [h1]⟩
    · by_cases h2 : i = q
      · exact ⟨p, fun _ => H.lt, by rw [h2, upd_same, upd_same], by simp [h2, hne]⟩
      · exact ⟨i, fun h => h, by rw [upd_ne _ _ h2, upd_ne _ _ h1, upd_ne _ _ h1], by simp [h1, h2]⟩
  refine ⟨fun i j hi hj e => ?_, fun x => ⟨?_, ?_⟩⟩
  · obtain ⟨i', a1, a2, a3⟩ := key i
    obtain ⟨j', b1, b2, b3⟩ := key j
    rw [a2, b2] at e
    have := H.inj i' j' (a1 hi) (b1 hj) e
    subst this
    rw [a3] at b3
    by_cases i1 : i = p <;> by_cases i2 : i = q <;> by_cases j1 : j = p <;> by_cases j2 : j = q <;> simp [i1, i2, j1, j2, hne] at b3 <;> omega
  · rintro ⟨i, hi, e⟩
    obtain ⟨i', a1, a2, a3⟩ := key i
    exact ⟨i', a1 hi, by rw [← a2]; exact e⟩
  · rintro ⟨i, hi, e⟩
    by_cases h1 : i = p
    · exact ⟨q, hq, by rw [upd_same, ← e, h1, upd_same]⟩
    · by_cases h2 : i = q
      · exact ⟨p, H.lt, by rw [upd_ne _ _ (Ne.symm hne), upd_same, ← e, h2, upd_ne _ _ hne]⟩
      · exact ⟨i, hi, by rw [upd_ne _ _ h2, upd_ne _ _ h1, ← e, upd_ne _ _ h1]⟩

theorem Hole.id_ne {n : Nat} {h : Nat → Dl} {f : Int → Option Nat} {p q : Nat} {d : Dl} (H : Hole n h f p d) (hq : q < n) (hne : q ≠ p) {i : Nat} (hi : i < n) (hip : i ≠ p) (hiq : i ≠ q) : (h i).1 ≠ (h q).1 := fun e => hiq (H.inj i q hi hq (by rw [upd_ne _ _ hip, upd_ne _ _ hne]; exact e))

theorem Hole.up {n : Nat} {h : Nat → Dl} {f : Int → Option Nat} {p : Nat} {d : Dl} (H : Hole n h f p d) (hp : 0 < p) :
    Hole n (upd h p (h ((p - 1) / 2))) (put f (h ((p - 1) / 2)).1 p) ((p - 1) / 2) d ∧ (∀ x, Mem n (upd (upd h p (h ((p - 1) / 2))) ((p - 1) / 2) d) x ↔ Mem n (upd h p d) x) := by
  have hE := E.up hp
  have hlt := H.lt
  obtain ⟨q, hq⟩ : ∃ q, q = (p - 1) / 2 := ⟨_, rfl⟩
  rw [← hq] at hE ⊢
  have hqp : q ≠ p := hE.ne
  have hqn : q < n := by omega
  obtain ⟨hinj, hmem⟩ := H.move_inj hqn hqp
  refine ⟨⟨hqn, hinj, fun i hi hne => ?_, fun x k hx => ?_, fun i j hij hj hi1 hj1 => ?_, fun i c h1 h2 hc => ?_⟩, hmem⟩
  · by_cases h1 : i = p
    · rw [h1, upd_same]; simp [put]
    · rw [upd_ne _ _ h1]
      unfold put
      rw [if_neg (H.id_ne hqn hqp hi h1 hne)]
      exact H.place i hi h1
  · unfold put at hx
    by_cases h1 : x = (h q).1
    · exact ⟨p, hlt, by rw [upd_ne _ _ (Ne.symm hqp), upd_same, h1]⟩
    · rw [if_neg h1] at hx
      obtain ⟨i, hi, e⟩ := H.dom x k hx
      obtain ⟨j, hj, e2⟩ := (hmem (upd h p d i)).2 ⟨i, hi, rfl⟩
      exact ⟨j, hj, by rw [e2]; exact e⟩
  · by_cases h1 : i = p
    · subst h1
      have : j ≠ i := (E.ne hij).symm
      rw [upd_same, upd_ne _ _ this]
      exact H.byp q j hE hij hj
    · by_cases h2 : j = p
      · subst h2
        exact absurd (E.uniq hij hE) hi1
      · rw [upd_ne _ _ h1, upd_ne _ _ h2]
        exact H.edge i j hij hj h1 h2
  · have hip : i ≠ p := by unfold E at *; omega
    have hiq : i ≠ q := h1.ne
    rw [upd_ne _ _ hip]
    have hle : Le (h i) (h q) := H.edge i q h1 hqn hip hqp
    by_cases h3 : c = p
    · rw [h3, upd_same]; exact hle
    · rw [upd_ne _ _ h3]
      exact hle.trans (H.edge q c h2 hc hqp h3)

theorem Hole.down {n : Nat} {h : Nat → Dl} {f : Int → Option Nat} {p q : Nat} {d : Dl} (H : Hole n h f p d) (hE : E p q) (hqn : q < n) (hmin : ∀ c, E p c → c < n → Le (h q) (h c)) :
    Hole n (upd h p (h q)) (put f (h q).1 p) q d ∧ (∀ x, Mem n (upd (upd h p (h q)) q d) x ↔ Mem n (upd h p d) x) := by
  have hlt := H.lt
  have hqp : q ≠ p := hE.ne.symm
  obtain ⟨hinj, hmem⟩ := H.move_inj hqn hqp
  refine ⟨⟨hqn, hinj, fun i hi hne => ?_, fun x k hx => ?_, fun i j hij hj hi1 hj1 => ?_, fun i c h1 h2 hc => ?_⟩, hmem⟩
  · by_cases h1 : i = p
    · rw [h1, upd_same]; simp [put]
    · rw [upd_ne _ _ h1]
      unfold put
      rw [if_neg (H.id_ne hqn hqp hi h1 hne)]
      exact H.place i hi h1
  · unfold put at hx
    by_cases h1 : x = (h q).1
    · exact ⟨p, hlt, by rw [upd_ne _ _ (Ne.symm hqp), upd_same, h1]⟩
    · rw [if_neg h1] at hx
      obtain ⟨i, hi, e⟩ := H.dom x k hx
      obtain ⟨j, hj, e2⟩ := (hmem (upd h p d i)).2 ⟨i, hi, rfl⟩
      exact ⟨j, hj, by rw [e2]; exact e⟩
  · by_cases h1 : i = p
    · subst h1
      have : j ≠ i := (E.ne hij).symm
      rw [upd_same, upd_ne _ _ this]
      exact hmin j hij hj
    · by_cases h2 : j = p
      · subst h2
        rw [upd_same, upd_ne _ _ h1]
        exact H.byp i q hij hE hqn
      · rw [upd_ne _ _ h1, upd_ne _ _ h2]
        exact H.edge i j hij hj h1 h2
  · obtain rfl := E.uniq h1 hE
    have hcp : c ≠ i := by unfold E at *; omega
    rw [upd_same, upd_ne _ _ hcp]
    exact H.edge q c h2 hc hqp hcp

theorem Hole.fill {n : Nat} {h : Nat → Dl} {f : Int → Option Nat} {p : Nat} {d : Dl} (H : Hole n h f p d) (hup : ∀ i, E i p → Le (h i) d) (hdn : ∀ c, E p c → c < n → Le d (h c)) :
    Heap n (upd h p d) (put f d.1 p) := by
  refine ⟨H.inj, fun i hi => ?_, fun x k hx => ?_, fun i j hij hj => ?_⟩
  · by_cases h1 : i = p
    · rw [h1, upd_same]; simp [put]
    · have hne : (h i).1 ≠ d.1 := fun e => h1 (H.inj i p hi H.lt (by rw [upd_ne _ _ h1, upd_same]; exact e))
      rw [upd_ne _ _ h1]
      unfold put
      rw [if_neg hne]
      exact H.place i hi h1
  · unfold put at hx
    by_cases h1 : x = d.1
    · rw [if_pos h1] at hx
      cases hx
      exact ⟨H.lt, by rw [upd_same, h1]⟩
    · rw [if_neg h1] at hx
      obtain ⟨i, hi, e⟩ := H.dom x k hx
      have hip : i ≠ p := fun e2 => h1 (by rw [← e, e2, upd_same])
      rw [upd_ne _ _ hip] at e
      have := H.place i hi hip
      rw [e, hx] at this
      cases this
      exact ⟨hi, by rw [upd_ne _ _ hip]; exact e⟩
  · by_cases h1 : i = p
    · subst h1
      rw [upd_same, upd_ne _ _ (E.ne hij).symm]
      exact hdn j hij hj
    · by_cases h2 : j = p
      · subst h2
        rw [upd_same, upd_ne _ _ h1]
        exact hup i hij
      · rw [upd_ne _ _ h1, upd_ne _ _ h2]
        exact H.edge i j hij hj h1 h2

theorem Heap.least {n : Nat} {h : Nat → Dl} {f : Int → Option Nat} (H : Heap n h f) : ∀ i, i < n → Le (h 0) (h i) := by
  intro i
  induction i using Nat.strongRecOn with
  | _ i ih =>
    intro hi
    rcases Nat.eq_zero_or_pos i with rfl | h0
    · exact Le.refl _
    · exact (ih ((i - 1) / 2) (by omega) (by omega)).trans (H.edge _ _ (E.up h0) hi)

/-- An id that is held gets another time. -/
theorem Heap.hole_at {n : Nat} {h : Nat → Dl} {f : Int → Option Nat} (H : Heap n h f) {p : Nat} (hp : p < n) (d : Dl) (hd : d.1 = (h p).1) : Hole n h f p d := by
  have e : ∀ i, (upd h p d i).1 = (h i).1 := fun i => by
    by_cases h1 : i = p
    · rw [h1, upd_same, hd]
    · rw [upd_ne _ _ h1]
  refine ⟨hp, fun i j hi hj hij => H.inj i j hi hj (by rw [← e i, ← e j]; exact hij), fun i hi _ => H.place i hi, fun x k hx => ?_, fun i j hij hj _ _ => H.edge i j hij hj, fun i c h1 h2 hc => ?_⟩
  · obtain ⟨hk, ek⟩ := H.dom x k hx
    exact ⟨k, hk, by rw [e]; exact ek⟩
  · have hpn : p < n := hp
    exact (H.edge i p h1 hpn).trans (H.edge p c h2 hc)

/-- A new id comes to the end. -/
theorem Heap.hole_end {n : Nat} {h : Nat → Dl} {f : Int → Option Nat} (H : Heap n h f) (d : Dl) (hd : f d.1 = none) : Hole (n + 1) h f n d := by
  have hne : ∀ i, i < n → (h i).1 ≠ d.1 := fun i hi e => by
    have := H.place i hi
    rw [e, hd] at this; cases this
  refine ⟨by omega, fun i j hi hj hij => ?_, fun i hi hne => H.place i (by omega), fun x k hx => ?_, fun i j hij hj h1 h2 => H.edge i j hij (by omega), fun i c h1 h2 hc => ?_⟩
  · by_cases h1 : i = n
    · by_cases h2 : j = n
      · omega
      · rw [h1, upd_same, upd_ne _ _ h2] at hij
        exact absurd hij.symm (hne j (by omega))
    · by_cases h2 : j = n
      · rw [h2, upd_same, upd_ne _ _ h1] at hij
        exact absurd hij (hne i (by omega))
      · rw [upd_ne _ _ h1, upd_ne _ _ h2] at hij
        exact H.inj i j (by omega) (by omega) hij
  · obtain ⟨hk, ek⟩ := H.dom x k hx
    exact ⟨k, by omega, by rw [upd_ne _ _ (by omega)]; exact ek⟩
  · unfold E at h2; omega

/-- The last one goes. -/
theorem Heap.pop {n : Nat} {h : Nat → Dl} {f : Int → Option Nat} (H : Heap (n + 1) h f) : Heap n h (del f (h n).1) := by
  have hne : ∀ i, i < n → (h i).1 ≠ (h n).1 := fun i hi e => by have := H.inj i n (by omega) (by omega) e; omega
  refine ⟨fun i j hi hj => H.inj i j (by omega) (by omega), fun i hi => ?_, fun x k hx => ?_, fun i j hij hj => H.edge i j hij (by omega)⟩
  · unfold del; rw [if_neg (hne i hi)]; exact H.place i (by omega)
  · unfold del at hx
    split at hx
    · cases hx
    · rename_i h1
      obtain ⟨hk, ek⟩ := H.dom x k hx
      refine ⟨?_, ek⟩
      rcases Nat.lt_or_ge k n with h2 | h2
      · exact h2
      · exact absurd (by rw [← ek, show k = n by omega]) h1

/-- One in the midst goes: the last one is to come to its place. -/
theorem Heap.hole_take {n : Nat} {h : Nat → Dl} {f : Int → Option Nat} (H : Heap (n + 1) h f) {p : Nat} (hp : p < n) : Hole n h (del f (h p).1) p (h n) := by
  have hne : ∀ i, i < n + 1 → i ≠ p → (h i).1 ≠ (h p).1 := fun i hi h1 e => h1 (H.inj i p hi (by omega) e)
  refine ⟨hp, fun i j hi hj hij => ?_, fun i hi h1 => ?_, fun x k hx => ?_, fun i j hij hj _ _ => H.edge i j hij (by omega), fun i c h1 h2 hc => (H.edge i p h1 (by omega)).trans (H.edge p c h2 (by omega))⟩
  · by_cases h1 : i = p
    · by_cases h2 : j = p
      · omega
      · rw [h1, upd_same, upd_ne _ _ h2] at hij
        have := H.inj n j (by omega) (by omega) hij; omega
    · by_cases h2 : j = p
      · rw [h2, upd_same, upd_ne _ _ h1] at hij
        have := H.inj i n (by omega) (by omega) hij; omega
      · rw [upd_ne _ _ h1, upd_ne _ _ h2] at hij
        exact H.inj i j (by omega) (by omega) hij
  · unfold del; rw [if_neg (hne i (by omega) h1)]; exact H.place i (by omega)
  · unfold del at hx
    split at hx
    · cases hx
    · rename_i h1
      obtain ⟨hk, ek⟩ := H.dom x k hx
      by_cases h2 : k = n
      · exact ⟨p, hp, by rw [upd_same, ← ek, h2]⟩
      · have h3 : k ≠ p := fun e => h1 (by rw [← ek, e])
        exact ⟨k, by omega, by rw [upd_ne _ _ h3]; exact ek⟩
end Go.Proofs.YtkkfioebpppffaaGreatDoor.Tm.H

namespace Go.Proofs.YtkkfioebpppffaaGreatDoor.Tm.H

instance (a b : Dl) : Decidable (Lt a b) := inferInstanceAs (Decidable (_ ∨ _))

theorem Lt.trans {a b c : Dl} (h1 : Lt a b) (h2 : Lt b c) : Lt a c := by unfold Lt at *; omega
theorem Lt.irrefl (a : Dl) : ¬ Lt a a := by unfold Lt; omega
theorem Lt.ne {a b : Dl} (h : Lt a b) : a ≠ b := fun e => Lt.irrefl b (e ▸ h)
theorem lt_of_not {a b : Dl} (h : ¬ Lt a b) (hne : a.1 ≠ b.1) : Lt b a := by unfold Lt at *; omega

/-- Laid ahead of those that it is ahead of. -/
def ins (d : Dl) : List Dl → List Dl
  | [] => [d]
  | x :: r => if Lt d x then d :: x :: r else x :: ins d r

/-- Without an id. -/
def drp (i : Int) (S : List Dl) : List Dl := S.filter fun x => x.1 != i

def setS (S : List Dl) (d : Dl) : List Dl := ins d (drp d.1 S)

theorem mem_ins {d x : Dl} {S : List Dl} : x ∈ ins d S ↔ x = d ∨ x ∈ S := by
  induction S with
  | nil => simp [ins]
  | cons y r ih =>
    unfold ins
    split
    · simp
    · simp only [List.mem_cons, ih]
      constructor
      · rintro (h | h | h)
        · exact .inr (.inl h)
        · exact .inl h
        · exact .inr (.inr h)
      · rintro (h | h | h)
        · exact .inr (.inl h)
        · exact .inl h
        · exact .inr (.inr h)

theorem mem_drp {i : Int} {x : Dl} {S : List Dl} : x ∈ drp i S ↔ x ∈ S ∧ x.1 ≠ i := by
  unfold drp; simp

theorem mem_setS {d x : Dl} {S : List Dl} : x ∈ setS S d ↔ x = d ∨ (x ∈ S ∧ x.1 ≠ d.1) := by
  unfold setS; rw [mem_ins, mem_drp]

theorem length_ins (d : Dl) (S : List Dl) : (ins d S).length = S.length + 1 := by
  induction S with
  | nil => rfl
  | cons y r ih => unfold ins; split <;> simp [ih]

theorem ins_sorted {d : Dl} {S : List Dl} (hS : S.Pairwise Lt) (hd : ∀ x ∈ S, x.1 ≠ d.1) : (ins d S).Pairwise Lt := by
  induction S with
  | nil => simp [ins]
  | cons y r ih =>
    obtain ⟨h1, h2⟩ := List.pairwise_cons.1 hS
    unfold ins
    split
    · rename_i hlt
      refine List.pairwise_cons.2 ⟨fun x hx => ?_, hS⟩
      rcases List.mem_cons.1 hx with rfl | hx
      · exact hlt
      · exact hlt.trans (h1 x hx)
    · rename_i hlt
      refine List.pairwise_cons.2 ⟨fun x hx => ?_, ih h2 (fun x hx => hd x (List.mem_cons_of_mem _ hx))⟩
      rcases mem_ins.1 hx with rfl | hx
      · exact lt_of_not hlt (hd y List.mem_cons_self).symm
      · exact h1 x hx

theorem drp_sorted {i : Int} {S : List Dl} (hS : S.Pairwise Lt) : (drp i S).Pairwise Lt := hS.filter _

theorem setS_sorted {d : Dl} {S : List Dl} (hS : S.Pairwise Lt) : (setS S d).Pairwise Lt :=
  ins_sorted (drp_sorted hS) (fun _ hx => (mem_drp.1 hx).2)

theorem drp_self {i : Int} {S : List Dl} (h : ∀ x ∈ S, x.1 ≠ i) : drp i S = S := by
  unfold drp
  rw [List.filter_eq_self]
  intro x hx
  simpa using h x hx

theorem nodup_len {α : Type} [BEq α] [LawfulBEq α] : ∀ (A B : List α), A.Nodup → (∀ x ∈ A, x ∈ B) → A.length ≤ B.length
  | [], _, _, _ => by simp
  | a :: A, B, hA, h => by
    obtain ⟨h1, h2⟩ := List.nodup_cons.1 hA
    have ha : a ∈ B := h a List.mem_cons_self
    have := nodup_len A (B.erase a) h2 (fun x hx => by
      have hne : x ≠ a := fun e => h1 (e ▸ hx)
      exact (List.mem_erase_of_ne hne).2 (h x (List.mem_cons_of_mem _ hx)))
    rw [List.length_erase_of_mem ha] at this
    have hl := List.length_pos_of_mem ha
    rw [List.length_cons]
    omega

theorem sorted_nodup {S : List Dl} (hS : S.Pairwise Lt) : S.Nodup := hS.imp fun h => h.ne

/-- Sorted lists with the same members are one. -/
theorem sorted_ext : ∀ {S T : List Dl}, S.Pairwise Lt → T.Pairwise Lt → (∀ x, x ∈ S ↔ x ∈ T) → S = T
  | [], [], _, _, _ => rfl
  | [], y :: T, _, _, h => absurd ((h y).2 List.mem_cons_self) (by simp)
  | x :: S, [], _, _, h => absurd ((h x).1 List.mem_cons_self) (by simp)
  | x :: S, y :: T, hS, hT, h => by
    obtain ⟨s1, s2⟩ := List.pairwise_cons.1 hS
    obtain ⟨t1, t2⟩ := List.pairwise_cons.1 hT
    have hxy : x = y := by
      rcases List.mem_cons.1 ((h x).1 List.mem_cons_self) with e | hx
      · exact e
      · rcases List.mem_cons.1 ((h y).2 List.mem_cons_self) with e | hy
        · exact e.symm
        · exact absurd ((s1 y hy).trans (t1 x hx)) (Lt.irrefl _)
    subst hxy
    congr 1
    refine sorted_ext s2 t2 fun z => ⟨fun hz => ?_, fun hz => ?_⟩
    · rcases List.mem_cons.1 ((h z).1 (List.mem_cons_of_mem _ hz)) with e | hz'
      · exact absurd (e ▸ s1 z hz) (Lt.irrefl _)
      · exact hz'
    · rcases List.mem_cons.1 ((h z).2 (List.mem_cons_of_mem _ hz)) with e | hz'
      · exact absurd (e ▸ t1 z hz) (Lt.irrefl _)
      · exact hz'

/-- The heap holds what stands in the sorted list. -/
structure Rep (n : Nat) (h : Nat → Dl) (S : List Dl) : Prop where
  sorted : S.Pairwise Lt
  mem : ∀ x, Mem n h x ↔ x ∈ S

theorem Rep.len {n : Nat} {h : Nat → Dl} {S : List Dl} (R : Rep n h S) (hi : Inj n h) : S.length = n := by
  have hnd : ((List.range n).map h).Nodup := by
    refine List.pairwise_map.2 ?_
    refine List.Pairwise.imp_of_mem ?_ (List.nodup_range (n := n))
    intro a b ha hb hab e
    exact hab (hi a b (List.mem_range.1 ha) (List.mem_range.1 hb) (by rw [e]))
  have h1 := nodup_len S ((List.range n).map h) (sorted_nodup R.sorted) (fun x hx => by
    obtain ⟨i, hi, e⟩ := (R.mem x).2 hx
    exact List.mem_map.2 ⟨i, List.mem_range.2 hi, e⟩)
  have h2 := nodup_len ((List.range n).map h) S hnd (fun x hx => by
    obtain ⟨i, hi, e⟩ := List.mem_map.1 hx
    exact (R.mem x).1 ⟨i, List.mem_range.1 hi, e⟩)
  simp at h1 h2
  omega

theorem Rep.ids {n : Nat} {h : Nat → Dl} {S : List Dl} (R : Rep n h S) (hi : Inj n h) : ∀ x ∈ S, ∀ y ∈ S, x.1 = y.1 → x = y := by
  intro x hx y hy e
  obtain ⟨i, hi1, rfl⟩ := (R.mem x).2 hx
  obtain ⟨j, hj1, rfl⟩ := (R.mem y).2 hy
  rw [hi i j hi1 hj1 e]

theorem Rep.empty : Rep 0 (fun _ => (0, 0)) [] := ⟨List.Pairwise.nil, fun x => by simp [Mem]⟩

/-- The first one. -/
theorem Rep.head {n : Nat} {h : Nat → Dl} {f : Int → Option Nat} {S : List Dl} (R : Rep n h S) (H : Heap n h f) (hn : 0 < n) : ∃ T, S = h 0 :: T := by
  have h0 : h 0 ∈ S := (R.mem _).1 ⟨0, hn, rfl⟩
  match S, R, h0 with
  | s :: T, R, h0 =>
    obtain ⟨i, hi, e⟩ := (R.mem s).2 List.mem_cons_self
    have hle : Le (h 0) s := by rw [← e]; exact H.least i hi
    obtain ⟨s1, _⟩ := List.pairwise_cons.1 R.sorted
    have hle2 : Le s (h 0) := by
      rcases List.mem_cons.1 h0 with e2 | h2
      · rw [e2]; exact Le.refl _
      · exact (s1 _ h2).le
    exact ⟨T, by rw [hle.antisymm hle2]⟩

/-- An id that is held. -/
theorem Rep.held {n : Nat} {h : Nat → Dl} {f : Int → Option Nat} {S : List Dl} (R : Rep n h S) (H : Heap n h f) {x : Int} {k : Nat} (hk : f x = some k) : k < n ∧ (h k).1 = x ∧ h k ∈ S := by
  obtain ⟨h1, h2⟩ := H.dom x k hk
  exact ⟨h1, h2, (R.mem _).1 ⟨k, h1, rfl⟩⟩

theorem Rep.free {n : Nat} {h : Nat → Dl} {f : Int → Option Nat} {S : List Dl} (R : Rep n h S) (H : Heap n h f) {x : Int} (hk : f x = none) : ∀ y ∈ S, y.1 ≠ x := by
  intro y hy e
  obtain ⟨i, hi, rfl⟩ := (R.mem y).2 hy
  have := H.place i hi
  rw [e, hk] at this
  cases this

/-- Behind Set, of an id that was held at p. -/
theorem Rep.moved {n : Nat} {h h' : Nat → Dl} {S : List Dl} (R : Rep n h S) (hi : Inj n h) {p : Nat} (hp : p < n) {d : Dl} (hd : d.1 = (h p).1) (hm : ∀ x, Mem n h' x ↔ Mem n (upd h p d) x) : Rep n h' (setS S d) := by
  refine ⟨setS_sorted R.sorted, fun x => ?_⟩
  rw [hm, mem_setS]
  constructor
  · rintro ⟨i, hi1, e⟩
    by_cases h1 : i = p
    · exact .inl (by rw [← e, h1, upd_same])
    · rw [upd_ne _ _ h1] at e
      refine .inr ⟨(R.mem x).1 ⟨i, hi1, e⟩, fun e2 => h1 (hi i p hi1 hp ?_)⟩
      rw [e, e2, hd]
  · rintro (rfl | ⟨hx, hne⟩)
    · exact ⟨p, hp, upd_same _ _ _⟩
    · obtain ⟨i, hi1, e⟩ := (R.mem x).2 hx
      have h1 : i ≠ p := fun e2 => hne (by rw [← e, e2, hd])
      exact ⟨i, hi1, by rw [upd_ne _ _ h1]; exact e⟩

/-- Behind Set, of a new id. -/
theorem Rep.came {n : Nat} {h h' : Nat → Dl} {f : Int → Option Nat} {S : List Dl} (R : Rep n h S) (H : Heap n h f) {d : Dl} (hd : f d.1 = none) (hm : ∀ x, Mem (n + 1) h' x ↔ Mem (n + 1) (upd h n d) x) : Rep (n + 1) h' (setS S d) := by
  have hfr := R.free H hd
  refine ⟨setS_sorted R.sorted, fun x => ?_⟩
  rw [hm, mem_setS]
  constructor
  · rintro ⟨i, hi1, e⟩
    by_cases h1 : i = n
    · exact .inl (by rw [← e, h1, upd_same])
    · rw [upd_ne _ _ h1] at e
      have hx := (R.mem x).1 ⟨i, by omega, e⟩
      exact .inr ⟨hx, hfr x hx⟩
  · rintro (rfl | ⟨hx, _⟩)
    · exact ⟨n, by omega, upd_same _ _ _⟩
    · obtain ⟨i, hi1, e⟩ := (R.mem x).2 hx
      exact ⟨i, by omega, by rw [upd_ne _ _ (by omega)]; exact e⟩

/-- One is taken out: at p, the last one comes to its place. -/
theorem Rep.took {n : Nat} {h h' : Nat → Dl} {S : List Dl} (R : Rep (n + 1) h S) (hi : Inj (n + 1) h) {p : Nat} (hp : p < n) (hm : ∀ x, Mem n h' x ↔ Mem n (upd h p (h n)) x) : Rep n h' (drp (h p).1 S) := by
  refine ⟨drp_sorted R.sorted, fun x => ?_⟩
  rw [hm, mem_drp]
  constructor
  · rintro ⟨i, hi1, e⟩
    by_cases h1 : i = p
    · rw [h1, upd_same] at e
      refine ⟨(R.mem x).1 ⟨n, by omega, e⟩, fun e2 => ?_⟩
      have := hi n p (by omega) (by omega) (by rw [e, e2])
      omega
    · rw [upd_ne _ _ h1] at e
      refine ⟨(R.mem x).1 ⟨i, by omega, e⟩, fun e2 => h1 (hi i p (by omega) (by omega) ?_)⟩
      rw [e, e2]
  · rintro ⟨hx, hne⟩
    obtain ⟨i, hi1, e⟩ := (R.mem x).2 hx
    by_cases h1 : i = n
    · exact ⟨p, hp, by rw [upd_same, ← e, h1]⟩
    · have h2 : i ≠ p := fun e2 => hne (by rw [← e, e2])
      exact ⟨i, by omega, by rw [upd_ne _ _ h2]; exact e⟩

/-- The last one is taken out. -/
theorem Rep.popped {n : Nat} {h : Nat → Dl} {S : List Dl} (R : Rep (n + 1) h S) (hi : Inj (n + 1) h) : Rep n h (drp (h n).1 S) := by
  refine ⟨drp_sorted R.sorted, fun x => ?_⟩
  rw [mem_drp]
  constructor
  · rintro ⟨i, hi1, e⟩
    refine ⟨(R.mem x).1 ⟨i, by omega, e⟩, fun e2 => ?_⟩
    have := hi i n (by omega) (by omega) (by rw [e, e2])
    omega
  · rintro ⟨hx, hne⟩
    obtain ⟨i, hi1, e⟩ := (R.mem x).2 hx
    have h2 : i ≠ n := fun e2 => hne (by rw [← e, e2])
    exact ⟨i, by omega, e⟩

theorem drp_head {d : Dl} {T : List Dl} (hS : (d :: T).Pairwise Lt) (hids : ∀ x ∈ d :: T, ∀ y ∈ d :: T, x.1 = y.1 → x = y) : drp d.1 (d :: T) = T := by
  obtain ⟨h1, _⟩ := List.pairwise_cons.1 hS
  unfold drp
  rw [List.filter_cons_of_neg (by simp)]
  exact drp_self (fun x hx e => Lt.irrefl d (by
    have := hids x (List.mem_cons_of_mem _ hx) d List.mem_cons_self e
    rw [this] at hx
    exact h1 d hx))

/-- The list's places as a function. -/
def at' (L : List Dl) : Nat → Dl := fun i => L.getD i (0, 0)

theorem at_set {L : List Dl} {p : Nat} (hp : p < L.length) (d : Dl) : at' (L.set p d) = upd (at' L) p d := by
  funext i
  show (L.set p d).getD i (0, 0) = if i = p then d else L.getD i (0, 0)
  rw [List.getD_eq_getElem?_getD, List.getD_eq_getElem?_getD]
  by_cases h : i = p
  · subst h; rw [if_pos rfl, List.getElem?_set_self hp]; rfl
  · rw [if_neg h, List.getElem?_set_ne (Ne.symm h)]

theorem at_get {L : List Dl} {i : Nat} (hi : i < L.length) : L[i]? = some (at' L i) := by
  unfold at'
  rw [List.getD_eq_getElem?_getD, List.getElem?_eq_getElem hi]
  rfl
end Go.Proofs.YtkkfioebpppffaaGreatDoor.Tm.H

namespace Go.Proofs.YtkkfioebpppffaaGreatDoor.Tm
open Go.ChangeShapes Go.WideShapes Go.ChangeAt Go.RowKit Go.Maps H
set_option maxHeartbeats 400000
set_option maxRecDepth 100000

/-! ### the map of places -/
theorem law3 : Keyed Tryz.prog 3 := int_keyed Tryz.underlying3
theorem u60 : Tryz.prog.underlying 81 = some (.map 3 3) := Tryz.underlying81

theorem key64 {x : Int} (hx : In64 x) : keyOf Tryz.prog 3 (.int .i64 x) = some (.int .i64 x) := keyOf_int_mk Tryz.underlying3 (WalkArith.wf_i64 ⟨hx.lo, hx.hi⟩)

/-- The map at block bm: which ids it has, and their places; it has c entries. -/
def MapF (w : World) (bm : Nat) (f : Int → Option Nat) (c : Nat) : Prop :=
  ∃ D : DataW Unit, w.ownsMap Tryz.prog 3 (plainElem Tryz.prog 3) bm c D ∧ Maps.size D = c ∧
    ∀ x, In64 x → Maps.has D (.int .i64 x) = (f x).isSome ∧ D.atKey (.int .i64 x) (.lit (.int .i64 0)) = .lit (.int .i64 (((f x).getD 0 : Nat) : Int))

theorem own_tight {w : World} {bm n : Nat} {D : DataW Unit} (h : w.ownsMap Tryz.prog 3 (plainElem Tryz.prog 3) bm n D) : w.ownsMap Tryz.prog 3 (plainElem Tryz.prog 3) bm (Maps.size D) D := by
  obtain ⟨es, clock, hb, F, hs, hD⟩ := h
  refine ⟨es, clock, hb, F, ?_, hD⟩
  rw [hD]
  show es.size ≤ (List.foldr DataW.insert [] _).length
  rw [length_sorted]
  simp

theorem MapF.made (w : World) : MapF (w.alloc (.map #[] 0)) w.heap.size (fun _ => none) 0 :=
  ⟨.map [], World.ownsMap_made w _ _ _, rfl, fun _ _ => ⟨rfl, rfl⟩⟩

theorem MapF.lt {w : World} {bm c : Nat} {f : Int → Option Nat} (h : MapF w bm f c) : bm < w.heap.size := by
  obtain ⟨D, h1, _⟩ := h
  exact h1.lt

theorem MapF.kept {w w' : World} {bm c : Nat} {f : Int → Option Nat} (h : MapF w bm f c) (hb : w'.heap[bm]? = w.heap[bm]?) : MapF w' bm f c := by
  obtain ⟨D, ⟨es, clock, h0, F, hs, hD⟩, h2, h3⟩ := h
  exact ⟨D, ⟨es, clock, hb.trans h0, F, hs, hD⟩, h2, h3⟩

theorem MapF.store {w : World} {bm c : Nat} {f : Int → Option Nat} (h : MapF w bm f c) (hc : c < 1000000) {x : Int} (hx : In64 x) (p : Nat) (hp : p < 1000000) :
    ∃ w', (Instr.mapUpdate 81 (.map (some bm)) (.int .i64 x) (.int .i64 (p : Int))).run Tryz.prog w = .ok () w' ∧ MapF w' bm (put f x p) (if (f x).isSome then c else c + 1) ∧ w.mapTurned w' bm := by
  obtain ⟨D, h1, h2, h3⟩ := h
  have hw : (Lit.int .i64 (p : Int)).wf = true := WalkArith.wf_i64 (by omega)
  obtain ⟨w', hr, ho, ht⟩ := h1.store law3 u60 (by unfold maxLen; omega) (key64 hx) (plainElem_int Tryz.underlying3 hw)
  have htd := h1.tidy law3
  have hsz : Maps.size (D.put (.int .i64 x) (.lit (.int .i64 (p : Int)))) = if (f x).isSome then c else c + 1 := by
    rw [size_put htd, (h3 x hx).1, h2]
  refine ⟨w', hr, ⟨_, by rw [← hsz]; exact own_tight ho, hsz, fun y hy => ?_⟩, ht⟩
  by_cases hxy : y = x
  · subst hxy
    exact ⟨by rw [has_put_same (k := .int .i64 y) h1.isMap trivial]; simp [put], by rw [atKey_put_same (k := .int .i64 y) h1.isMap trivial]; simp [put]⟩
  · have hne : (Lit.int .i64 y) ≠ Lit.int .i64 x := fun e => hxy (by cases e; rfl)
    refine ⟨by rw [has_put_other hne, (h3 y hy).1]; simp [put, hxy], by rw [atKey_put_other hne, (h3 y hy).2]; simp [put, hxy]⟩

theorem MapF.drop {w : World} {bm c : Nat} {f : Int → Option Nat} (h : MapF w bm f c) {x : Int} (hx : In64 x) (hf : (f x).isSome = true) (ty : TypeId) :
    ∃ w', (Builtin.delete_ #[81, 3] ty #[.map (some bm), .int .i64 x]).run Tryz.prog w = .ok (.tuple #[]) w' ∧ MapF w' bm (del f x) (c - 1) ∧ w.mapTurned w' bm := by
  obtain ⟨D, h1, h2, h3⟩ := h
  obtain ⟨w', hr, ho, ht⟩ := h1.drop law3 u60 (key64 hx) ty
  have hsz : Maps.size (D.del (.int .i64 x)) = c - 1 := by
    have := size_del (k := .int .i64 x) (h1.tidy law3)
    rw [(h3 x hx).1, hf, h2] at this
    simp at this
    omega
  refine ⟨w', hr, ⟨_, by rw [← hsz]; exact own_tight ho, hsz, fun y hy => ?_⟩, ht⟩
  by_cases hxy : y = x
  · subst hxy
    exact ⟨by rw [has_del_same]; simp [del], by rw [atKey_del_same]; simp [del]⟩
  · have hne : (Lit.int .i64 y) ≠ Lit.int .i64 x := fun e => hxy (by cases e; rfl)
    refine ⟨by rw [has_del_other hne, (h3 y hy).1]; simp [del, hxy], by rw [atKey_del_other hne, (h3 y hy).2]; simp [del, hxy]⟩

theorem zero3 (w : World) : (zeroValue 3).run Tryz.prog w = .ok (.int .i64 0) w := by kernel_rfl

theorem MapF.look {w : World} {bm c : Nat} {f : Int → Option Nat} (h : MapF w bm f c) {x : Int} (hx : In64 x) :
    (Instr.lookup 81 (.map (some bm)) (.int .i64 x) true).run Tryz.prog w = .ok (.tuple #[.int .i64 (((f x).getD 0 : Nat) : Int), .bool (f x).isSome]) w := by
  obtain ⟨D, h1, _, h3⟩ := h
  obtain ⟨v, ps, hr, hv⟩ := h1.look_ok law3 u60 (zero3 w) (plainElem_int (a := 0) Tryz.underlying3 (by decide)) (key64 hx)
  rw [(h3 x hx).1] at hr
  rw [(h3 x hx).2] at hv
  obtain ⟨c', rfl, hc, _⟩ := plainElem_int_inv Tryz.underlying3 hv
  have : c' = (((f x).getD 0 : Nat) : Int) := by
    have := congrArg Prod.fst hc
    simpa using this.symm
  rw [hr, this]
end Go.Proofs.YtkkfioebpppffaaGreatDoor.Tm

namespace Go.Proofs.YtkkfioebpppffaaGreatDoor.Tm
open Go.ChangeShapes Go.WideShapes Go.ChangeAt Go.RowKit Go.Maps H
set_option maxHeartbeats 400000
set_option maxRecDepth 100000

/-! ### the row of deadlines -/
def pc (d : Dl) : List Value := [.int .i64 d.1, .int .i64 d.2]
def ds (L : List Dl) : List Value := L.flatMap pc

theorem ds_len (L : List Dl) : (ds L).length = L.length * 2 := by
  induction L with
  | nil => rfl
  | cons d L ih =>
    have e : ds (d :: L) = .int .i64 d.1 :: .int .i64 d.2 :: ds L := rfl
    rw [e, List.length_cons, List.length_cons, ih, List.length_cons]; omega

theorem ds_at (L : List Dl) (j : Nat) (h : j < L.length) : (ds L)[j * 2]? = some (.int .i64 (at' L j).1) ∧ (ds L)[j * 2 + 1]? = some (.int .i64 (at' L j).2) := by
  induction L generalizing j with
  | nil => cases h
  | cons p L ih =>
    have e : ds (p :: L) = .int .i64 p.1 :: .int .i64 p.2 :: ds L := rfl
    cases j with
    | zero => rw [e]; exact ⟨rfl, rfl⟩
    | succ j =>
      have h' : j < L.length := by simpa using h
      have := ih j h'
      rw [e, show (j + 1) * 2 = j * 2 + 1 + 1 from by omega]
      simp only [List.getElem?_cons_succ]
      exact this

theorem ds_set (L : List Dl) (j : Nat) (d : Dl) (h : j < L.length) : ds (L.set j d) = ((ds L).set (j * 2) (.int .i64 d.1)).set (j * 2 + 1) (.int .i64 d.2) := by
  induction L generalizing j with
  | nil => cases h
  | cons p L ih =>
    have e : ds (p :: L) = .int .i64 p.1 :: .int .i64 p.2 :: ds L := rfl
    cases j with
    | zero => rw [e]; rfl
    | succ j =>
      have h' : j < L.length := by simpa using h
      have e2 : ds ((p :: L).set (j + 1) d) = .int .i64 p.1 :: .int .i64 p.2 :: ds (L.set j d) := rfl
      rw [e, e2, ih j h', show (j + 1) * 2 = j * 2 + 1 + 1 from by omega]
      rfl

theorem ds_append (L M : List Dl) : ds (L ++ M) = ds L ++ ds M := by unfold ds; rw [List.flatMap_append]

theorem ds_take (L : List Dl) (n : Nat) : ds (L.take n) = (ds L).take (n * 2) := by
  induction L generalizing n with
  | nil => simp [ds]
  | cons p L ih =>
    have e : ds (p :: L) = .int .i64 p.1 :: .int .i64 p.2 :: ds L := rfl
    cases n with
    | zero => simp [ds]
    | succ n =>
      have e2 : ds ((p :: L).take (n + 1)) = .int .i64 p.1 :: .int .i64 p.2 :: ds (L.take n) := rfl
      rw [e2, ih, e, show (n + 1) * 2 = n * 2 + 1 + 1 by omega]
      rfl

/-- The block g is a row of room for cap deadlines, of which the first are L. -/
def RowD (w : World) (g cap : Nat) (L : List Dl) : Prop :=
  ∃ cur, w.heap[g]? = some (.cells cur 115 (0, 0)) ∧ L.length ≤ cap ∧ cap ≤ maxLen ∧ cur.size = cap * 2 ∧ cur.toList.take (L.length * 2) = ds L

theorem RowD.lt {w : World} {g cap : Nat} {L : List Dl} (h : RowD w g cap L) : g < w.heap.size := by
  obtain ⟨cur, h1, _⟩ := h
  exact (Array.getElem?_eq_some_iff.1 h1).1

theorem RowD.kept {w w' : World} {g cap : Nat} {L : List Dl} (h : RowD w g cap L) (hb : w'.heap[g]? = w.heap[g]?) : RowD w' g cap L := by
  obtain ⟨cur, h1, h2⟩ := h
  exact ⟨cur, hb.trans h1, h2⟩

theorem RowD.free {w : World} {g cap : Nat} {L : List Dl} (h : RowD w g cap L) (i : Nat) : w.frozen? ⟨g, i, none⟩ = false := by
  obtain ⟨cur, h1, _⟩ := h
  exact frozen_of_row _ _ _ _ _ h1

theorem RowD.cell {w : World} {g cap : Nat} {L : List Dl} (h : RowD w g cap L) (i : Nat) (hi : i < L.length) :
    w.cell? ⟨g, i * 2, none⟩ = some (.int .i64 (at' L i).1) ∧ w.cell? ⟨g, i * 2 + 1, none⟩ = some (.int .i64 (at' L i).2) := by
  obtain ⟨cur, h1, h2, h3, h4, h5⟩ := h
  obtain ⟨d1, d2⟩ := ds_at L i hi
  rw [← h5] at d1 d2
  rw [List.getElem?_take_of_lt (by omega), Array.getElem?_toList] at d1 d2
  exact ⟨by rw [cell_of_row _ _ _ _ _ _ h1]; exact d1, by rw [cell_of_row _ _ _ _ _ _ h1]; exact d2⟩

theorem RowD.set {w : World} {g cap : Nat} {L : List Dl} (h : RowD w g cap L) (i : Nat) (d : Dl) (hi : i < L.length) : RowD ((w.setCell ⟨g, i * 2, none⟩ (.int .i64 d.1)).setCell ⟨g, i * 2 + 1, none⟩ (.int .i64 d.2)) g cap (L.set i d) := by
  obtain ⟨cur, h1, h2, h3, h4, h5⟩ := h
  have e1 := heap_setCell_same w g (i * 2) cur 115 (.int .i64 d.1) h1
  have e2 := heap_setCell_same _ g (i * 2 + 1) _ 115 (.int .i64 d.2) e1
  refine ⟨_, e2, by rw [List.length_set]; exact h2, h3, by simpa using h4, ?_⟩
  rw [List.length_set, ds_set L i d hi, ← h5]
  simp only [Array.toList_setIfInBounds, List.take_set]

theorem RowD.take {w : World} {g cap : Nat} {L : List Dl} (h : RowD w g cap L) (n : Nat) : RowD w g cap (L.take n) := by
  obtain ⟨cur, h1, h2, h3, h4, h5⟩ := h
  refine ⟨cur, h1, by rw [List.length_take]; omega, h3, h4, ?_⟩
  rw [ds_take, ← h5, List.take_take, List.length_take]
  congr 1
  omega

/-- What a world has kept: all but some blocks. -/
structure Fr (F : List Nat) (w w' : World) : Prop where
  os : w'.os = w.os
  tape : w'.tape = w.tape
  output : w'.output = w.output
  size : w.heap.size ≤ w'.heap.size
  block : ∀ i, i < w.heap.size → i ∉ F → w'.heap[i]? = w.heap[i]?

theorem Fr.refl (F : List Nat) (w : World) : Fr F w w := ⟨rfl, rfl, rfl, Nat.le_refl _, fun _ _ _ => rfl⟩
theorem Fr.trans' {F G : List Nat} {a b c : World} (h1 : Fr F a b) (h2 : Fr G b c) (hG : ∀ x ∈ G, x ∈ F ∨ a.heap.size ≤ x) : Fr F a c :=
  ⟨h2.os.trans h1.os, h2.tape.trans h1.tape, h2.output.trans h1.output, Nat.le_trans h1.size h2.size, fun i hi hn =>
    (h2.block i (Nat.lt_of_lt_of_le hi h1.size) (fun hg => by rcases hG i hg with h | h; exact hn h; omega)).trans (h1.block i hi hn)⟩
theorem Fr.trans {F : List Nat} {a b c : World} (h1 : Fr F a b) (h2 : Fr F b c) : Fr F a c := h1.trans' h2 (fun _ h => .inl h)
theorem Fr.mono {F G : List Nat} {a b : World} (h : Fr F a b) (hF : ∀ x ∈ F, x ∈ G) : Fr G a b :=
  ⟨h.os, h.tape, h.output, h.size, fun i hi hn => h.block i hi (fun hf => hn (hF i hf))⟩
theorem Fr.alloc (F : List Nat) (w : World) (o : Obj) : Fr F w (w.alloc o) := ⟨rfl, rfl, rfl, by simp, fun i hi _ => (World.grownBy_alloc w o none).block i hi (by simp)⟩
theorem Fr.drew {F : List Nat} {a b : World} (h : Fr F a b) : Fr F a b.drew := ⟨h.os, h.tape, h.output, h.size, h.block⟩
theorem Fr.set {F : List Nat} {a b : World} (h : Fr F a b) {g i : Nat} {v : Value} (hg : g ∈ F) : Fr F a (b.setCell ⟨g, i, none⟩ v) :=
  ⟨h.os, h.tape, h.output, by simpa [World.setCell] using h.size, fun j hj hn => by
    have hne : g ≠ j := fun e => hn (e ▸ hg)
    rw [← h.block j hj hn]
    simp [World.setCell, Array.getElem?_modify, hne]⟩
theorem Fr.turned {F : List Nat} {a b c : World} (h : Fr F a b) {bm : Nat} (ht : b.mapTurned c bm) (hb : bm ∈ F) : Fr F a c := by
  have hg := ht.grown
  exact ⟨hg.os.trans h.os, hg.tape.trans h.tape, hg.output.trans h.output, Nat.le_trans h.size hg.size, fun j hj hn => (hg.block j (Nat.lt_of_lt_of_le hj h.size) (fun e => hn (by cases e; exact hb))).trans (h.block j hj hn)⟩
theorem Fr.below {F : List Nat} {a b : World} (h : Fr F a b) {B : Nat} (hF : ∀ x ∈ F, B ≤ x) (hB : B ≤ a.heap.size) : Below B a b :=
  ⟨h.os, h.tape, h.output, h.size, fun k hk => h.block k (by omega) (fun hf => by have := hF k hf; omega)⟩
theorem Fr.of_below {a b : World} (h : Below a.heap.size a b) (F : List Nat) : Fr F a b := ⟨h.os, h.tape, h.output, h.size, fun k hk _ => h.block k hk⟩

/-- A Timers, as it lies in memory: while something is moved about in it. -/
structure Mm (w : World) (b bm g cap : Nat) (lim : Int) (L : List Dl) (f : Int → Option Nat) (c : Nat) : Prop where
  row : w.heap[b]? = some (.cells #[.int .i64 lim, .slice (some ⟨g, 0, none⟩) L.length cap, .map (some bm)] 84 (0, 0))
  own : RowD w g cap L
  map : MapF w bm f c
  dom : ∀ x ∈ L, In64 x.1 ∧ In64 x.2
  room : L.length ≤ 65536 ∧ c ≤ 65536

theorem Mm.ne {w : World} {b bm g cap : Nat} {lim : Int} {L : List Dl} {f : Int → Option Nat} {c : Nat} (h : Mm w b bm g cap lim L f c) : b ≠ bm ∧ g ≠ b ∧ g ≠ bm := by
  obtain ⟨cur, h1, _⟩ := h.own
  obtain ⟨D, ⟨es, clock, h2, _⟩, _⟩ := h.map
  have h3 := h.row
  refine ⟨fun e => ?_, fun e => ?_, fun e => ?_⟩
  · rw [e, h2] at h3; cases h3
  · rw [e, h3] at h1; cases h1
  · rw [e, h2] at h1; cases h1

theorem Mm.kept {w w' : World} {b bm g cap : Nat} {lim : Int} {L : List Dl} {f : Int → Option Nat} {c : Nat} (h : Mm w b bm g cap lim L f c) (h1 : w'.heap[b]? = w.heap[b]?) (h2 : w'.heap[g]? = w.heap[g]?) (h3 : w'.heap[bm]? = w.heap[bm]?) : Mm w' b bm g cap lim L f c :=
  ⟨h1.trans h.row, h.own.kept h2, h.map.kept h3, h.dom, h.room⟩

theorem Mm.lt {w : World} {b bm g cap : Nat} {lim : Int} {L : List Dl} {f : Int → Option Nat} {c : Nat} (h : Mm w b bm g cap lim L f c) : b < w.heap.size ∧ g < w.heap.size ∧ bm < w.heap.size :=
  ⟨(Array.getElem?_eq_some_iff.1 h.row).1, h.own.lt, h.map.lt⟩

theorem Mm.fr {w w' : World} {F : List Nat} {b bm g cap : Nat} {lim : Int} {L : List Dl} {f : Int → Option Nat} {c : Nat} (h : Mm w b bm g cap lim L f c) (hf : Fr F w w') (h1 : b ∉ F) (h2 : g ∉ F) (h3 : bm ∉ F) : Mm w' b bm g cap lim L f c :=
  h.kept (hf.block _ h.lt.1 h1) (hf.block _ h.lt.2.1 h2) (hf.block _ h.lt.2.2 h3)

/-- put: the row and the map. -/
theorem put_any (b bm g cap p : Nat) (lim : Int) (L : List Dl) (f : Int → Option Nat) (c : Nat) (d : Dl) (w : World) (hm : Mm w b bm g cap lim L f c) (hp : p < L.length) (hd : In64 d.1 ∧ In64 d.2) (hc : (f d.1).isSome = true ∨ c < 65536) :
    Calls Tryz.prog 88 #[.pointer (some ⟨b, 0, none⟩), .int .i64 (p : Int), .agg #[.int .i64 d.1, .int .i64 d.2]] w fun e w' => e = .returned (.tuple #[]) ∧ Mm w' b bm g cap lim (L.set p d) (put f d.1 p) (if (f d.1).isSome then c else c + 1) ∧ Fr [g, bm] w w' := by
  obtain ⟨hn1, hn2, hn3⟩ := hm.ne
  obtain ⟨hl1, hl2, hl3⟩ := hm.lt
  have hroom := hm.room
  obtain ⟨w1, hw1⟩ : ∃ w1, w1 = w.alloc (.cells #[.int .i64 d.1, .int .i64 d.2] 115) := ⟨_, rfl⟩
  have hf1 : Fr [] w w1 := by rw [hw1]; exact Fr.alloc _ _ _
  have hs1 : w1.heap.size = w.heap.size + 1 := by rw [hw1]; simp
  have hm1 : Mm w1 b bm g cap lim L f c := hm.fr hf1 (by simp) (by simp) (by simp)
  have hbx : w1.heap[w.heap.size]? = some (.cells #[.int .i64 d.1, .int .i64 d.2] 115 (0, 0)) := by rw [hw1]; exact heap_alloc_new w _
  have k1 : w1.cell? ⟨b, 1, none⟩ = some (.slice (some ⟨g, 0, none⟩) L.length cap) := by rw [cell_of_row _ _ _ _ _ _ hm1.row]; rfl
  have x0 : w1.cell? ⟨w.heap.size, 0, none⟩ = some (.int .i64 d.1) := by rw [cell_of_row _ _ _ _ _ _ hbx]; rfl
  have x1 : w1.cell? ⟨w.heap.size, 1, none⟩ = some (.int .i64 d.2) := by rw [cell_of_row _ _ _ _ _ _ hbx]; rfl
  obtain ⟨y0, y1⟩ := hm1.own.cell p hp
  have f0 := hm1.own.free (p * 2)
  have f1 := hm1.own.free (p * 2 + 1)
  have HW1 := hid hw1
  -- behind the first statement
  obtain ⟨w3, hw3⟩ : ∃ w3, w3 = ((w1.setCell ⟨g, p * 2, none⟩ (.int .i64 d.1)).setCell ⟨g, p * 2 + 1, none⟩ (.int .i64 d.2)).drew := ⟨_, rfl⟩
  have hf3 : Fr [g] w1 w3 := by rw [hw3]; exact ((Fr.refl [g] w1).set (by simp)).set (by simp) |>.drew
  have hr3 : RowD w3 g cap (L.set p d) := by rw [hw3]; exact hm1.own.set p d hp
  have hb3 := hf3.block b hm1.lt.1 (by simpa using hn2.symm)
  have hx3 := hf3.block w.heap.size (by omega) (by simp; omega)
  have k2 : w3.cell? ⟨b, 2, none⟩ = some (.map (some bm)) := by rw [cell_of_row _ _ _ _ _ _ (hb3.trans hm1.row)]; rfl
  have z0 : w3.cell? ⟨w.heap.size, 0, none⟩ = some (.int .i64 d.1) := by rw [cell_of_row _ _ _ _ _ _ (hx3.trans hbx)]; rfl
  have hmp : MapF w3.drew bm f c := hm1.map.kept (hf3.block bm hm1.lt.2.2 (by simpa using hn3.symm))
  obtain ⟨w4, hrun, hm4, ht4⟩ := hmp.store (by omega) hd.1 p (by omega)
  have hf4 : Fr [g, bm] w w4 := by
    have h1 : Fr [g, bm] w w3 := (hf1.mono (G := [g, bm]) (by simp)).trans (hf3.mono (by simp))
    exact h1.drew.turned ht4 (by simp)
  have hg4 := ht4.grown
  have hres : Mm w4 b bm g cap lim (L.set p d) (put f d.1 p) (if (f d.1).isSome then c else c + 1) := by
    have hsz : w3.drew.heap.size = w3.heap.size := rfl
    refine ⟨?_, hr3.kept (hg4.block g (by rw [hsz]; exact hr3.lt) (by simpa using hn3)), hm4, fun x hx => ?_, ?_⟩
    · rw [List.length_set]
      have := hg4.block b (by rw [hsz]; exact Nat.lt_of_lt_of_le hm1.lt.1 hf3.size) (by simpa using hn1)
      rw [this]
      exact hb3.trans hm1.row
    · rcases List.mem_or_eq_of_mem_set hx with hx | rfl
      · exact hm1.dom x hx
      · exact hd
    · rw [List.length_set]
      refine ⟨hroom.1, ?_⟩
      rcases hc with hc | hc
      · rw [if_pos hc]; exact hroom.2
      · split <;> omega
  have HW3 := hid hw3
  have HRES := hid hres
  have HF4 := hid hf4
  obtain ⟨n, hn⟩ : ∃ n, n = L.length := ⟨_, rfl⟩
  rw [← hn] at k1 hp
  have hn6 : n ≤ 65536 := by omega
  generalize (at' L p).1 = v0 at y0
  generalize (at' L p).2 = v1 at y1
  clear hw1 hs1 hm hm1 hbx hw3 hf3 hr3 hb3 hx3 hmp hm4 ht4 hf4 hg4 hres hn hf1 hroom
  go_enter Tryz.func88, Tryz.ntmps88
  go_upto_region 1 with fail
  rw [← HW1.out]
  go_wp2
  go_region
  rw [← HW3.out]
  clear k1 x0 x1 y0 y1 f0 f1
  go_wp2
  go_region
  exact bodyPost_end (results_none Tryz.results88 _ _ _) rfl ⟨rfl, HRES.out, HF4.out⟩
end Go.Proofs.YtkkfioebpppffaaGreatDoor.Tm

namespace Go.Proofs.YtkkfioebpppffaaGreatDoor.Tm
open Go.ChangeShapes Go.WideShapes Go.ChangeAt Go.RowKit
set_option maxHeartbeats 400000
set_option maxRecDepth 100000

/-- The slice value v shows, in the world w, the numbers L. -/
def SeesI (w : World) (v : Value) (L : List Int) : Prop :=
  ∃ ao cap, v = .slice ao L.length cap ∧ L.length ≤ cap ∧ cap ≤ maxLen ∧
    ∀ j (h : j < L.length), ∃ g off, ao = some ⟨g, off, none⟩ ∧ g < w.heap.size ∧ w.cell? ⟨g, off + j, none⟩ = some (.int .i64 L[j]) ∧ In64 L[j]

theorem SeesI.shape {w : World} {v : Value} {L : List Int} (h : SeesI w v L) : ∃ ao n cap, v = .slice ao n cap ∧ Hid (n = L.length) ∧ n ≤ cap ∧ cap ≤ maxLen := by
  obtain ⟨ao, cap, hv, h1, h2, _⟩ := h
  exact ⟨ao, L.length, cap, hv, rfl, h1, h2⟩

theorem SeesI.at {w : World} {ao : Option Addr} {n cap : Nat} {L : List Int} (h : SeesI w (.slice ao n cap) L) (j : Nat) (hj : j < n) : ∃ (g off : Nat) (p : Int), ao = some ⟨g, off, none⟩ ∧ g < w.heap.size ∧ w.cell? ⟨g, off + j, none⟩ = some (.int .i64 p) ∧ In64 p ∧ Hid (L[j]? = some p) := by
  obtain ⟨ao', cap', hv, h1, h2, h3⟩ := h
  simp at hv
  obtain ⟨rfl, rfl, rfl⟩ := hv
  obtain ⟨g, off, a, b, c, d⟩ := h3 j hj
  exact ⟨g, off, L[j], a, b, c, d, List.getElem?_eq_getElem hj⟩

theorem SeesI.below {w w' : World} {v : Value} {L : List Int} (h : SeesI w v L) (hb : Below w.heap.size w w') : SeesI w' v L := by
  obtain ⟨ao, cap, hv, h1, h2, h3⟩ := h
  refine ⟨ao, cap, hv, h1, h2, fun j hj => ?_⟩
  obtain ⟨g, off, ha, hg, c0, c1⟩ := h3 j hj
  exact ⟨g, off, ha, Nat.lt_of_lt_of_le hg hb.size, (hb.cell (p := ⟨g, _, none⟩) hg).trans c0, c1⟩

theorem below_drew {B : Nat} {a w : World} (h : Below B a w) : Below B a w.drew := ⟨h.os, h.tape, h.output, h.size, h.block⟩
theorem below_drewN {B : Nat} {a w : World} (h : Below B a w) (n : Nat) : Below B a (w.drewN n) := ⟨h.os, h.tape, h.output, h.size, h.block⟩

end Go.Proofs.YtkkfioebpppffaaGreatDoor.Tm
