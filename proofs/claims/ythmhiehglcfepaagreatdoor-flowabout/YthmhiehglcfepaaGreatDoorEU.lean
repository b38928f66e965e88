import Derived.Test.YthmhiehglcfepaaGreatDoorRows
import Derived.WalkKit
import Derived.ProofKit
import Derived.OpenShut
import Derived.Deep.QuietTactic
import Derived.BigQuiet
import Derived.Laws.BitsAllLaws
namespace Go.Proofs.YthmhiehglcfepaaGreatDoor.Ad
open Go.ChangeShapes Go.WideShapes Go.ChangeAt Go.RowKit
set_option maxHeartbeats 400000

theorem ret_int {k : IntKind} {a b : Int} (h : a = b) : Ending.returned (.int k a) = .returned (.int k b) := by rw [h]
theorem ret_bool {a b : Bool} (h : a = b) : Ending.returned (.bool a) = .returned (.bool b) := by rw [h]
theorem ret_int2 {k l : IntKind} {a b c d : Int} (h : a = b) (g : c = d) : Ending.returned (.tuple #[.int k a, .int l c]) = .returned (.tuple #[.int k b, .int l d]) := by rw [h, g]
theorem hid {p : Prop} (h : p) : Hid p := h
theorem below_drewN {B : Nat} {a w : World} (h : Below B a w) (n : Nat) : Below B a (w.drewN n) := ⟨h.os, h.tape, h.output, h.size, h.block⟩

theorem two_blocks {w w4 : World} {o1 o2 : Obj} {q : Nat} (hb : Below (((w.alloc o1).drewN q).alloc o2).heap.size (((w.alloc o1).drewN q).alloc o2) w4) :
    w4.heap[w.heap.size]? = some o1 ∧ w4.heap[w.heap.size + 1]? = some o2 ∧ Below w.heap.size w w4 := by
  have e1 : ((w.alloc o1).drewN q).heap.size = w.heap.size + 1 := by show (w.alloc o1).heap.size = _; simp
  have hsz : (((w.alloc o1).drewN q).alloc o2).heap.size = w.heap.size + 2 := by
    rw [show (((w.alloc o1).drewN q).alloc o2).heap.size = ((w.alloc o1).drewN q).heap.size + 1 from by simp, e1]
  refine ⟨?_, ?_, ?_⟩
  · rw [hb.block _ (by omega), Below.heap_alloc _ _ _ (by omega)]
    exact heap_alloc_new w o1
  · rw [hb.block _ (by omega), ← e1]
    exact heap_alloc_new _ o2
  · exact ((below_drewN ((Below.refl _ w).alloc (Nat.le_refl _) o1) q).alloc (by omega) o2).trans (hb.mono (by omega))

theorem row_two {w : World} {b : Nat} {x y : Value} {T : TypeId} (h : w.heap[b]? = some (.cells #[x, y] T (0, 0))) : w.cell? ⟨b, 0, none⟩ = some x ∧ w.cell? ⟨b, 1, none⟩ = some y ∧ w.frozen? ⟨b, 0, none⟩ = false ∧ w.frozen? ⟨b, 1, none⟩ = false ∧ b < w.heap.size := by
  refine ⟨by rw [cell_of_row w b 0 _ _ _ h]; rfl, by rw [cell_of_row w b 1 _ _ _ h]; rfl, by simp [World.frozen?, h], by simp [World.frozen?, h], (Array.getElem?_eq_some_iff.1 h).1⟩

theorem back_two {w : World} {b : Nat} {x y : Value} {T : TypeId} (h : w.heap[b]? = some (.cells #[x, y] T (0, 0))) (X Y : Value) : (w.setCell ⟨b, 0, none⟩ X).cell? ⟨b, 0, none⟩ = some X ∧ ((w.setCell ⟨b, 0, none⟩ X).setCell ⟨b, 1, none⟩ Y).cell? ⟨b, 1, none⟩ = some Y := by
  have h1 : (w.setCell ⟨b, 0, none⟩ X).heap[b]? = some (.cells #[X, y] T (0, 0)) := by simp [World.setCell, Array.getElem?_modify, h]
  have h2 : ((w.setCell ⟨b, 0, none⟩ X).setCell ⟨b, 1, none⟩ Y).heap[b]? = some (.cells #[X, Y] T (0, 0)) := by
    generalize (w.setCell ⟨b, 0, none⟩ X) = W at h1 ⊢
    simp [World.setCell, Array.getElem?_modify, h1]
  exact ⟨(row_two h1).1, (row_two h2).2.1⟩

/-- A world behind calls that made memory and wrote none of the elder. -/
structure Beh (w : World) where
  wd : World
  ok : Below w.heap.size w wd

instance (w : World) : Nonempty (Beh w) := ⟨⟨w, Below.refl _ _⟩⟩

theorem wp_region_beh {P : Program} {id : Nat} {Q : Exit → Act → World → Prop} {a : Act} {w : World} {l : List Oper} (hm : P.follows .mixedOrders = true) (hB : Region.lexB .any l.toArray = true)
    (h : wpQuiet P l.toArray (fun w' => ∃ u : Beh w, w' = u.wd) (fun a' => ∀ w', (∃ u : Beh w, w' = u.wd) → Q .normal a' w') l a) : (Code.region id l.toArray true).wp P Q a w :=
  wp_region_quiet (C := fun w' => ∃ u : Beh w, w' = u.wd) hm hB ⟨⟨_, below_drewN (Below.refl _ _) 1⟩, rfl⟩ (by simpa using h)

theorem Calls.beh {P : Program} {f : FuncId} {args : Array Value} {w : World} {u : Beh w} {v : Value}
    (h : Calls P f args u.wd fun e w' => e = .returned v ∧ Below u.wd.heap.size u.wd w') : Calls P f args u.wd fun e w'' => e = .returned v ∧ ∃ u' : Beh w, w'' = u'.wd :=
  h.mono fun _ w' ⟨he, hb⟩ => ⟨he, ⟨w', u.ok.trans (hb.mono u.ok.size)⟩, rfl⟩

theorem Beh.two {w : World} {b : Nat} {x y : Value} {T : TypeId} (h : w.heap[b]? = some (.cells #[x, y] T (0, 0))) :
    (∀ u : Beh w, u.wd.cell? ⟨b, 0, none⟩ = some x) ∧ (∀ u : Beh w, u.wd.cell? ⟨b, 1, none⟩ = some y) := by
  have hlt : b < w.heap.size := (row_two h).2.2.2.2
  constructor <;> intro u
  · exact (row_two ((u.ok.block b hlt).trans h)).1
  · exact (row_two ((u.ok.block b hlt).trans h)).2.1

end Go.Proofs.YthmhiehglcfepaaGreatDoor.Ad

namespace Go.Proofs.YthmhiehglcfepaaGreatDoor.Ad.M

/-- The cover by halving, of the range from lo to hi, within the block of 2^K addresses at base. -/
def cut : Nat → Nat → Nat → Nat → List (Nat × Nat)
  | 0, base, lo, hi => if base < lo ∨ hi < base then [] else [(base, 0)]
  | K + 1, base, lo, hi =>
    if base + 2 ^ (K + 1) - 1 < lo ∨ hi < base then []
    else if lo ≤ base ∧ base + 2 ^ (K + 1) - 1 ≤ hi then [(base, K + 1)]
    else cut K base lo hi ++ cut K (base + 2 ^ K) lo hi

def cv (lo hi : Nat) : List (Nat × Nat) := cut 32 0 lo hi

/-- k is the greatest exponent of a block that begins at x and ends at hi at the latest. -/
def Wid (x hi k : Nat) : Prop := k ≤ 32 ∧ x % 2 ^ k = 0 ∧ x + 2 ^ k - 1 ≤ hi ∧ (k < 32 → ¬ (x % 2 ^ (k + 1) = 0 ∧ x + 2 ^ (k + 1) - 1 ≤ hi))

theorem p2 (K : Nat) : 2 ^ (K + 1) = 2 * 2 ^ K ∧ 0 < 2 ^ K := ⟨by rw [Nat.pow_succ]; omega, Nat.two_pow_pos K⟩

theorem p2_le {a b : Nat} (h : a ≤ b) : 2 ^ a ≤ 2 ^ b := Nat.pow_le_pow_right (by omega) h

theorem dvd_of_mod {a d : Nat} (h : a % d = 0) : d ∣ a := Nat.dvd_of_mod_eq_zero h

theorem mod_down {a j k : Nat} (h : a % 2 ^ k = 0) (hj : j ≤ k) : a % 2 ^ j = 0 :=
  Nat.mod_eq_zero_of_dvd (Nat.dvd_trans (Nat.pow_dvd_pow 2 hj) (dvd_of_mod h))

theorem mod_add {a b k : Nat} (h : a % 2 ^ k = 0) (g : b % 2 ^ k = 0) : (a + b) % 2 ^ k = 0 :=
  Nat.mod_eq_zero_of_dvd (Nat.dvd_add (dvd_of_mod h) (dvd_of_mod g))

theorem mod_pow {j k : Nat} (hj : j ≤ k) : 2 ^ k % 2 ^ j = 0 := Nat.mod_eq_zero_of_dvd (Nat.pow_dvd_pow 2 hj)

/-- Two multiples of d: the smaller one and d is at most the greater. -/
theorem step_le {a b d : Nat} (ha : a % d = 0) (hb : b % d = 0) (h : a < b) : a + d ≤ b := by
  obtain ⟨c, rfl⟩ := dvd_of_mod ha
  obtain ⟨e, rfl⟩ := dvd_of_mod hb
  have : c < e := Nat.lt_of_mul_lt_mul_left h
  calc d * c + d = d * (c + 1) := by rw [Nat.mul_add, Nat.mul_one]
    _ ≤ d * e := Nat.mul_le_mul_left _ this

theorem cut_out {K base lo hi : Nat} (h : base + 2 ^ K - 1 < lo ∨ hi < base) : cut K base lo hi = [] := by
  cases K with
  | zero => simp only [cut]; rw [if_pos (by simpa using h)]
  | succ K => simp only [cut]; rw [if_pos h]

theorem cut_full {K base lo hi : Nat} (h : lo ≤ base) (g : base + 2 ^ K - 1 ≤ hi) : cut K base lo hi = [(base, K)] := by
  have := Nat.two_pow_pos K
  cases K with
  | zero => simp only [cut]; rw [if_neg (by simp at g; omega)]
  | succ K => simp only [cut]; rw [if_neg (by omega), if_pos ⟨h, g⟩]

theorem cut_half {K base lo hi : Nat} (h : ¬ (base + 2 ^ (K + 1) - 1 < lo ∨ hi < base)) (g : ¬ (lo ≤ base ∧ base + 2 ^ (K + 1) - 1 ≤ hi)) :
    cut (K + 1) base lo hi = cut K base lo hi ++ cut K (base + 2 ^ K) lo hi := by
  simp only [cut]; rw [if_neg h, if_neg g]

theorem cut_gt : ∀ (K base lo hi : Nat), hi < lo → cut K base lo hi = [] := by
  intro K
  induction K with
  | zero => intro base lo hi h; simp only [cut]; rw [if_pos (by omega)]
  | succ K ih =>
    intro base lo hi h
    by_cases o : base + 2 ^ (K + 1) - 1 < lo ∨ hi < base
    · exact cut_out o
    · have := Nat.two_pow_pos (K + 1)
      rw [cut_half o (by omega), ih _ _ _ h, ih _ _ _ h]; rfl

theorem cut_lo : ∀ (K base lo hi : Nat), lo ≤ base → cut K base lo hi = cut K base base hi := by
  intro K
  induction K with
  | zero => intro base lo hi h; simp only [cut]; by_cases c : hi < base
            · rw [if_pos (.inr c), if_pos (.inr c)]
            · rw [if_neg (by omega), if_neg (by omega)]
  | succ K ih =>
    intro base lo hi h
    have hp := p2 K
    by_cases o : hi < base
    · rw [cut_out (.inr o), cut_out (.inr o)]
    · by_cases f : base + 2 ^ (K + 1) - 1 ≤ hi
      · rw [cut_full h f, cut_full (Nat.le_refl _) f]
      · rw [cut_half (by omega) (by omega), cut_half (by omega) (by omega), ih base lo hi h, ih (base + 2 ^ K) lo hi (by omega), ih (base + 2 ^ K) base hi (by omega)]

/-- The step from the left. -/
theorem cut_step : ∀ (K base x hi k : Nat), base % 2 ^ K = 0 → base ≤ x → x < base + 2 ^ K → k ≤ K → K ≤ 32 → Wid x hi k → cut K base x hi = (x, k) :: cut K base (x + 2 ^ k) hi := by
  intro K
  induction K with
  | zero =>
    intro base x hi k _ h1 h2 h3 _ hw
    have hk : k = 0 := by omega
    have hx : x = base := by simp at h2; omega
    subst hk; subst hx
    have := hw.2.2.1
    simp only [cut]
    rw [if_neg (by simp at this; omega), if_pos (by simp)]
  | succ K ih =>
    intro base x hi k hb h1 h2 h3 h32 hw
    have hp := p2 K
    obtain ⟨_, hm, hend, hmax⟩ := hw
    have hxhi : x ≤ hi := by have := Nat.two_pow_pos k; omega
    by_cases f : x ≤ base ∧ base + 2 ^ (K + 1) - 1 ≤ hi
    · have hxb : x = base := by omega
      subst hxb
      have hk : k = K + 1 := by
        by_cases e : k = K + 1
        · exact e
        · exfalso
          have hle : 2 ^ (k + 1) ≤ 2 ^ (K + 1) := p2_le (by omega)
          exact hmax (by omega) ⟨mod_down hb (by omega), by omega⟩
      subst hk
      rw [cut_full f.1 f.2, cut_out (.inl (by omega))]
    · have hkK : k ≤ K := by
        by_cases e : k = K + 1
        · exfalso
          subst e
          have hxb : x = base := by
            rcases Nat.lt_or_ge base x with h | h
            · have := step_le hb hm h; omega
            · omega
          subst hxb
          exact f ⟨Nat.le_refl _, hend⟩
        · omega
      have hbK : base % 2 ^ K = 0 := mod_down hb (by omega)
      have hmid : (base + 2 ^ K) % 2 ^ K = 0 := mod_add hbK (mod_pow (Nat.le_refl _))
      have hmidk : (base + 2 ^ K) % 2 ^ k = 0 := mod_down hmid hkK
      have hpk := Nat.two_pow_pos k
      rw [cut_half (by omega) f]
      rcases Nat.lt_or_ge x (base + 2 ^ K) with h | h
      · have hle := step_le hm hmidk h
        rw [ih base x hi k hbK h1 h hkK (by omega) ⟨by omega, hm, hend, hmax⟩]
        rw [cut_half (lo := x + 2 ^ k) (by omega) (by omega)]
        rw [cut_lo K (base + 2 ^ K) x hi (by omega), cut_lo K (base + 2 ^ K) (x + 2 ^ k) hi (by omega)]
        rfl
      · rw [cut_out (K := K) (base := base) (lo := x) (.inl (by omega)), List.nil_append]
        rw [ih (base + 2 ^ K) x hi k hmid h (by omega) hkK (by omega) ⟨by omega, hm, hend, hmax⟩]
        by_cases o : base + 2 ^ (K + 1) - 1 < x + 2 ^ k ∨ hi < base
        · rw [cut_out o, cut_out (K := K) (by omega)]
        · rw [cut_half (lo := x + 2 ^ k) o (by omega), cut_out (K := K) (base := base) (lo := x + 2 ^ k) (.inl (by omega)), List.nil_append]

theorem cv_step {x hi k : Nat} (hx : x < 4294967296) (hw : Wid x hi k) : cv x hi = (x, k) :: cv (x + 2 ^ k) hi :=
  cut_step 32 0 x hi k (by simp) (by omega) (by simpa using hx) hw.1 (by omega) hw

theorem cv_gt {lo hi : Nat} (h : hi < lo) : cv lo hi = [] := cut_gt _ _ _ _ h

theorem wid_from : ∀ (f x hi k : Nat), k + f = 32 → x % 2 ^ k = 0 → x + 2 ^ k - 1 ≤ hi → ∃ j, Wid x hi j := by
  intro f
  induction f with
  | zero => intro x hi k hk h1 h2; exact ⟨k, by omega, h1, h2, by omega⟩
  | succ f ih =>
    intro x hi k hk h1 h2
    by_cases c : x % 2 ^ (k + 1) = 0 ∧ x + 2 ^ (k + 1) - 1 ≤ hi
    · exact ih x hi (k + 1) (by omega) c.1 c.2
    · exact ⟨k, by omega, h1, h2, fun _ => c⟩

theorem wid_some {x hi : Nat} (h : x ≤ hi) : ∃ k, Wid x hi k := wid_from 32 x hi 0 rfl (by simp; omega) (by simpa using h)

/-- What the blocks of a cover are. -/
theorem cut_mem : ∀ (K base lo hi x k : Nat), base % 2 ^ K = 0 → (x, k) ∈ cut K base lo hi →
    k ≤ K ∧ x % 2 ^ k = 0 ∧ lo ≤ x ∧ x + 2 ^ k - 1 ≤ hi ∧ base ≤ x ∧ x + 2 ^ k ≤ base + 2 ^ K ∧
      (k < K → ¬ (lo ≤ x / 2 ^ (k + 1) * 2 ^ (k + 1) ∧ x / 2 ^ (k + 1) * 2 ^ (k + 1) + 2 ^ (k + 1) - 1 ≤ hi)) := by
  intro K
  induction K with
  | zero =>
    intro base lo hi x k _ h
    simp only [cut] at h
    split at h
    · cases h
    · simp at h; obtain ⟨rfl, rfl⟩ := h
      simp; omega
  | succ K ih =>
    intro base lo hi x k hb h
    have hp := p2 K
    by_cases o : base + 2 ^ (K + 1) - 1 < lo ∨ hi < base
    · rw [cut_out o] at h; cases h
    · by_cases f : lo ≤ base ∧ base + 2 ^ (K + 1) - 1 ≤ hi
      · rw [cut_full f.1 f.2] at h
        simp at h; obtain ⟨rfl, rfl⟩ := h
        exact ⟨Nat.le_refl _, hb, f.1, f.2, Nat.le_refl _, Nat.le_refl _, fun h => absurd h (Nat.lt_irrefl _)⟩
      · rw [cut_half o f, List.mem_append] at h
        have hbK : base % 2 ^ K = 0 := mod_down hb (by omega)
        have hmid : (base + 2 ^ K) % 2 ^ K = 0 := mod_add hbK (mod_pow (Nat.le_refl _))
        obtain ⟨c, hc⟩ := dvd_of_mod hb
        rcases h with h | h
        · obtain ⟨a1, a2, a3, a4, a5, a6, a7⟩ := ih base lo hi x k hbK h
          refine ⟨by omega, a2, a3, a4, a5, by omega, fun _ => ?_⟩
          by_cases e : k < K
          · exact a7 e
          · have hk : k = K := by omega
            subst hk
            have hx : x = base := by omega
            subst hx
            have : x / 2 ^ (k + 1) * 2 ^ (k + 1) = x := Nat.div_mul_cancel (dvd_of_mod hb)
            rw [this]; exact f
        · obtain ⟨a1, a2, a3, a4, a5, a6, a7⟩ := ih (base + 2 ^ K) lo hi x k hmid h
          refine ⟨by omega, a2, a3, a4, by omega, by omega, fun _ => ?_⟩
          by_cases e : k < K
          · exact a7 e
          · have hk : k = K := by omega
            subst hk
            have hx : x = base + 2 ^ k := by omega
            subst hx
            have hd : (base + 2 ^ k) / 2 ^ (k + 1) * 2 ^ (k + 1) = base := by
              rw [hc, Nat.mul_add_div (by omega), Nat.div_eq_of_lt (by omega), Nat.add_zero, Nat.mul_comm]
            rw [hd]; exact f

theorem cut_left : ∀ (K base lo hi : Nat), lo ≤ base → hi < base + 2 ^ K - 1 → (cut K base lo hi).length ≤ K := by
  intro K
  induction K with
  | zero => intro base lo hi h g; rw [cut_out (.inr (by simp at g; omega))]; simp
  | succ K ih =>
    intro base lo hi h g
    have hp := p2 K
    by_cases o : hi < base
    · rw [cut_out (.inr o)]; simp
    · rw [cut_half (by omega) (by omega), List.length_append]
      by_cases c : hi < base + 2 ^ K
      · rw [cut_out (K := K) (base := base + 2 ^ K) (.inr c)]
        by_cases d : base + 2 ^ K - 1 ≤ hi
        · rw [cut_full h d]; simp
        · have := ih base lo hi h (by omega); simp; omega
      · rw [cut_full h (by omega)]
        have := ih (base + 2 ^ K) lo hi (by omega) (by omega)
        simp; omega

theorem cut_right : ∀ (K base lo hi : Nat), base < lo → base + 2 ^ K - 1 ≤ hi → (cut K base lo hi).length ≤ K := by
  intro K
  induction K with
  | zero => intro base lo hi h g; rw [cut_out (.inl (by simp; omega))]; simp
  | succ K ih =>
    intro base lo hi h g
    have hp := p2 K
    by_cases o : base + 2 ^ (K + 1) - 1 < lo
    · rw [cut_out (.inl o)]; simp
    · rw [cut_half (by omega) (by omega), List.length_append]
      by_cases c : base + 2 ^ K - 1 < lo
      · rw [cut_out (K := K) (base := base) (.inl c)]
        by_cases d : lo ≤ base + 2 ^ K
        · rw [cut_full d (by omega)]; simp
        · have := ih (base + 2 ^ K) lo hi (by omega) (by omega); simp; omega
      · rw [cut_full (K := K) (base := base + 2 ^ K) (by omega) (by omega)]
        have := ih base lo hi h (by omega)
        simp; omega

theorem cut_len : ∀ (K base lo hi : Nat), (cut K base lo hi).length ≤ 2 * K - 2 ∨ (cut K base lo hi).length ≤ 1 := by
  intro K
  induction K with
  | zero => intro base lo hi; right; simp only [cut]; split <;> simp
  | succ K ih =>
    intro base lo hi
    have hp := p2 K
    by_cases o : base + 2 ^ (K + 1) - 1 < lo ∨ hi < base
    · rw [cut_out o]; right; simp
    · by_cases f : lo ≤ base ∧ base + 2 ^ (K + 1) - 1 ≤ hi
      · rw [cut_full f.1 f.2]; right; simp
      · rw [cut_half o f, List.length_append]
        by_cases c : hi < base + 2 ^ K
        · rw [cut_out (K := K) (base := base + 2 ^ K) (.inr c)]
          have := ih base lo hi
          simp only [List.length_nil]; omega
        · by_cases d : base + 2 ^ K - 1 < lo
          · rw [cut_out (K := K) (base := base) (.inl d)]
            have := ih (base + 2 ^ K) lo hi
            simp only [List.length_nil]; omega
          · by_cases l1 : lo ≤ base
            · rw [cut_full (K := K) (base := base) l1 (by omega)]
              have := cut_left K (base + 2 ^ K) lo hi (by omega) (by omega)
              simp only [List.length_cons, List.length_nil]; omega
            · have r1 := cut_right K base lo hi (by omega) (by omega)
              by_cases l2 : base + 2 ^ K + 2 ^ K - 1 ≤ hi
              · rw [cut_full (K := K) (base := base + 2 ^ K) (by omega) l2]
                simp only [List.length_cons, List.length_nil]; omega
              · have := cut_left K (base + 2 ^ K) lo hi (by omega) (by omega)
                omega

theorem cv_len (lo hi : Nat) : (cv lo hi).length ≤ 62 := by
  have := cut_len 32 0 lo hi
  unfold cv; omega

theorem cv_mem {lo hi x k : Nat} (h : (x, k) ∈ cv lo hi) : k ≤ 32 ∧ x % 2 ^ k = 0 ∧ lo ≤ x ∧ x + 2 ^ k - 1 ≤ hi ∧ x + 2 ^ k ≤ 4294967296 ∧
    (k < 32 → ¬ (lo ≤ x / 2 ^ (k + 1) * 2 ^ (k + 1) ∧ x / 2 ^ (k + 1) * 2 ^ (k + 1) + 2 ^ (k + 1) - 1 ≤ hi)) := by
  obtain ⟨a1, a2, a3, a4, _, a6, a7⟩ := cut_mem 32 0 lo hi x k (by simp) h
  exact ⟨a1, a2, a3, a4, by simpa using a6, a7⟩

/-- Going through a cover from the left: the block that stands at j, and the rest. -/
theorem cv_round {lo hi x j : Nat} {pre : List (Nat × Nat)} (hh : hi < 4294967296) (h1 : pre.length = j) (h2 : pre ++ cv x hi = cv lo hi) (hj : j < (cv lo hi).length) :
    ∃ k, (cv lo hi)[j]? = some (x, k) ∧ k ≤ 32 ∧ x % 2 ^ k = 0 ∧ x + 2 ^ k - 1 ≤ hi ∧ x + 2 ^ k ≤ 4294967296 ∧
      (k < 32 → ¬ (lo ≤ x / 2 ^ (k + 1) * 2 ^ (k + 1) ∧ x / 2 ^ (k + 1) * 2 ^ (k + 1) + 2 ^ (k + 1) - 1 ≤ hi)) ∧
      (pre ++ [(x, k)]).length = j + 1 ∧ (pre ++ [(x, k)]) ++ cv (x + 2 ^ k) hi = cv lo hi ∧ x + 2 ^ k ≤ hi + 1 := by
  have hx : x ≤ hi := by
    rcases Nat.lt_or_ge hi x with h | h
    · rw [cv_gt h, List.append_nil] at h2
      rw [← h2] at hj; omega
    · exact h
  obtain ⟨k, hk⟩ := wid_some hx
  have hs := cv_step (by omega) hk
  rw [hs] at h2
  have hm : (x, k) ∈ cv lo hi := by rw [← h2]; simp
  obtain ⟨a1, a2, a3, a4, a5, a6⟩ := cv_mem hm
  refine ⟨k, ?_, a1, a2, a4, a5, a6, by simp [h1], by simpa using h2, ?_⟩
  · rw [← h2, ← h1]; simp
  · have := Nat.two_pow_pos k; omega

/-- The k lowest bits. -/
def mask (k : Nat) : Nat := 2 ^ k - 1

theorem mask_lt {k : Nat} (h : k ≤ 32) : mask k < 4294967296 := by
  have : 2 ^ k ≤ 2 ^ 32 := p2_le h
  have := Nat.two_pow_pos k
  unfold mask; omega

theorem and_mask (x k : Nat) : x &&& mask k = x % 2 ^ k := Nat.and_two_pow_sub_one_eq_mod x k

theorem or_mask (x k : Nat) (h : x % 2 ^ k = 0) : x ||| mask k = x + 2 ^ k - 1 := by
  have hp := Nat.two_pow_pos k
  obtain ⟨c, rfl⟩ := dvd_of_mod h
  rw [← Nat.two_pow_add_eq_or_of_lt (by unfold mask; omega)]
  unfold mask; omega

end Go.Proofs.YthmhiehglcfepaaGreatDoor.Ad.M

namespace Go.Proofs.YthmhiehglcfepaaGreatDoor.Ad
open Go.ChangeShapes Go.WideShapes Go.ChangeAt Go.RowKit
set_option maxHeartbeats 400000

theorem pow_pred (n : Nat) (h : n ≤ 32) : 4294967295 / 2 ^ n = 2 ^ (32 - n) - 1 := by
  have : ∀ m, m < 33 → 4294967295 / 2 ^ m = 2 ^ (32 - m) - 1 := by decide +kernel
  exact this n (by omega)

theorem bits_any (n : Int) (k : Nat) (w : World) (h0 : n = 32 - (k : Int)) (h1 : k ≤ 32) :
    Calls Tryz.prog 166 #[.int .i64 n] w fun e w' => e = .returned (.int .u32 ((M.mask k : Nat) : Int)) ∧ w' = w := by
  have hp := pow_pred n.toNat (by omega)
  have HP : Hid (4294967295 / 2 ^ n.toNat = M.mask k) := by
    unfold M.mask; rw [show k = 32 - n.toNat from by omega]; exact hp
  have b0 : 0 ≤ n := by omega
  have b1 : n ≤ 32 := by omega
  clear hp h0 h1
  go_enter Tryz.func166, Tryz.ntmps166
  go_wp2
  go_ret
  refine ⟨ret_int ?_, rfl⟩
  rw [← HP.out]; simp

theorem and_u32 (x k : Nat) (hx : x < 4294967296) (hk : k ≤ 32) : bits .and .u32 (x : Int) ((M.mask k : Nat) : Int) = ((x % 2 ^ k : Nat) : Int) := by
  rw [u32_and_nat x (M.mask k) hx (M.mask_lt hk), M.and_mask]

theorem or_u32 (x k : Nat) (hx : x < 4294967296) (hk : k ≤ 32) (h : x % 2 ^ k = 0) : bits .or .u32 (x : Int) ((M.mask k : Nat) : Int) = ((x + 2 ^ k - 1 : Nat) : Int) := by
  rw [u32_or_nat x (M.mask k) hx (M.mask_lt hk), M.or_mask x k h]

def pw (k : Nat) : Nat := 2 ^ k
theorem pw_succ (k : Nat) : pw (k + 1) = 2 * pw k := (M.p2 k).1
theorem pw_pos (k : Nat) : 0 < pw k := Nat.two_pow_pos k
theorem pw_le {k : Nat} (h : k ≤ 32) : pw k ≤ 4294967296 := M.p2_le (a := k) (b := 32) h

/-- Why a prefix is not valid; 0: it is. -/
def err (p : Nat × Int) : Int := if p.2 < 0 ∨ 32 < p.2 then 11 else if p.1 % 2 ^ (32 - p.2.toNat) = 0 then 0 else 12

/-- The prefixes that are valid: the block of 2^k addresses at x. -/
theorem err_ok {p : Nat × Int} (h : err p = 0) : ∃ k : Nat, k ≤ 32 ∧ p.2 = 32 - (k : Int) ∧ p.1 % 2 ^ k = 0 := by
  unfold err at h
  split at h
  · simp at h
  · rename_i h1
    split at h
    · exact ⟨32 - p.2.toNat, by omega, by omega, by assumption⟩
    · simp at h

theorem check_any (x : Nat) (n : Int) (w : World) (hx : x < 4294967296) :
    Calls Tryz.prog 165 #[.agg #[.int .u32 x, .int .i64 n]] w fun e w' => e = .returned (.int .i64 (err (x, n))) ∧ Below w.heap.size w w' := by
  by_cases h1 : n < 0
  · have HE : Hid (err (x, n) = 11) := by unfold Hid err; rw [if_pos (.inl h1)]
    go_enter Tryz.func165, Tryz.ntmps165
    go_wp2
    go_ret
    exact ⟨ret_int HE.out.symm, (Below.refl _ _).alloc (Nat.le_refl _) _⟩
  · by_cases h2 : 32 < n
    · have HE : Hid (err (x, n) = 11) := by unfold Hid err; rw [if_pos (.inr h2)]
      go_enter Tryz.func165, Tryz.ntmps165
      go_wp2
      go_ret
      exact ⟨ret_int HE.out.symm, (Below.refl _ _).alloc (Nat.le_refl _) _⟩
    · obtain ⟨k, hk, hn⟩ : ∃ k : Nat, k ≤ 32 ∧ n = 32 - (k : Int) := ⟨32 - n.toNat, by omega, by omega⟩
      have hA := and_u32 x k hx hk
      have hkn : 32 - n.toNat = k := by omega
      by_cases h3 : x % 2 ^ k = 0
      · have HE : Hid (err (x, n) = 0) := by unfold Hid err; rw [if_neg (by simp; omega), hkn, if_pos h3]
        have hq : (bits .and .u32 (x : Int) ((M.mask k : Nat) : Int) != 0) = false := by rw [hA, h3]; rfl
        have HN : Hid (n = 32 - (k : Int)) := hn
        clear hA h3 hkn hn
        go_enter Tryz.func165, Tryz.ntmps165
        go_wp2
        go_quiet ((go_at_call 166; exact Calls.quiet_of_same (bits_any _ k _ HN.out hk)))
        go_wp2
        go_ret
        exact ⟨ret_int HE.out.symm, below_drewN ((Below.refl _ _).alloc (Nat.le_refl _) _) _⟩
      · have HE : Hid (err (x, n) = 12) := by unfold Hid err; rw [if_neg (by simp; omega), hkn, if_neg h3]
        have hq : (bits .and .u32 (x : Int) ((M.mask k : Nat) : Int) != 0) = true := by
          rw [hA, bne_iff_ne]; intro e; exact h3 (by exact_mod_cast e)
        have HN : Hid (n = 32 - (k : Int)) := hn
        clear hA h3 hkn hn
        go_enter Tryz.func165, Tryz.ntmps165
        go_wp2
        go_quiet ((go_at_call 166; exact Calls.quiet_of_same (bits_any _ k _ HN.out hk)))
        go_wp2
        go_ret
        exact ⟨ret_int HE.out.symm, below_drewN ((Below.refl _ _).alloc (Nat.le_refl _) _) _⟩

end Go.Proofs.YthmhiehglcfepaaGreatDoor.Ad

namespace Go.Proofs.YthmhiehglcfepaaGreatDoor.Ad
open Go.ChangeShapes Go.WideShapes Go.ChangeAt Go.RowKit
set_option maxHeartbeats 400000

theorem valid_any (x : Nat) (n : Int) (w : World) (hx : x < 4294967296) :
    Calls Tryz.prog 144 #[.agg #[.int .u32 x, .int .i64 n]] w fun e w' => e = .returned (.bool (err (x, n) == 0)) ∧ Below w.heap.size w w' := by
  go_enter Tryz.func144, Tryz.ntmps144
  go_wp2_with fail
  refine (check_any x n _ hx).mono ?_
  rintro e w1 ⟨rfl, hb1⟩
  obtain ⟨ee, hee⟩ : ∃ ee, ee = err (x, n) := ⟨_, rfl⟩
  rw [← hee]
  have HEE := hid hee
  clear hee
  have hb01 : Below w.heap.size w w1 := ((Below.refl _ _).alloc (Nat.le_refl _) _).trans (hb1.mono (by simp))
  go_wp2_with fail
  go_ret
  exact ⟨ret_bool (by rw [HEE.out]), hb01⟩

theorem lastOf_any (x k : Nat) (n : Int) (w : World) (hn : n = 32 - (k : Int)) (hx : x < 4294967296) (hk : k ≤ 32) (hm : x % 2 ^ k = 0) :
    Calls Tryz.prog 145 #[.agg #[.int .u32 x, .int .i64 n]] w fun e w' => e = .returned (.int .u32 ((x + pw k - 1 : Nat) : Int)) ∧ Below w.heap.size w w' := by
  subst hn
  have hO := or_u32 x k hx hk hm
  have HO : Hid (bits .or .u32 (x : Int) ((M.mask k : Nat) : Int) = ((x + pw k - 1 : Nat) : Int)) := hO
  clear hO
  go_enter Tryz.func145, Tryz.ntmps145
  go_wp2
  go_quiet ((go_at_call 166; exact Calls.quiet_of_same (bits_any _ k _ (by omega) hk)))
  go_wp2
  go_ret
  exact ⟨ret_int HO.out, below_drewN ((Below.refl _ _).alloc (Nat.le_refl _) _) _⟩

theorem top_of (x k : Nat) (hx : x < 4294967296) (hk : k ≤ 32) (h : x % 2 ^ k = 0) : x + pw k ≤ 4294967296 :=
  M.step_le (d := 2 ^ k) h (show 4294967296 % 2 ^ k = 0 from M.mod_pow (k := 32) hk) hx

theorem ret_int3 {k l m : IntKind} {a b c d e f : Int} (h : a = b) (g : c = d) (i : e = f) : Ending.returned (.tuple #[.int k a, .int l c, .int m e]) = .returned (.tuple #[.int k b, .int l d, .int m f]) := by rw [h, g, i]

/-- The last address of a valid prefix. -/
def lst (x : Nat) (n : Int) : Nat := x + pw (32 - n.toNat) - 1

/-- Span's answer. -/
def ansS (x : Nat) (n : Int) : Value := if err (x, n) = 0 then .tuple #[.int .u32 (x : Int), .int .u32 ((lst x n : Nat) : Int), .int .i64 0] else .tuple #[.int .u32 0, .int .u32 0, .int .i64 (err (x, n))]

end Go.Proofs.YthmhiehglcfepaaGreatDoor.Ad

namespace Go.Proofs.YthmhiehglcfepaaGreatDoor.Ad
open Go.ChangeShapes Go.WideShapes Go.ChangeAt Go.RowKit
set_option maxHeartbeats 400000

/-- Whether a prefix has an address. -/
def has (x : Nat) (n : Int) (a : Nat) : Bool := (err (x, n) == 0) && decide (x ≤ a) && decide (a ≤ lst x n)

theorem contains_any (x : Nat) (n : Int) (a : Nat) (w : World) (hx : x < 4294967296) :
    Calls Tryz.prog 115 #[.agg #[.int .u32 x, .int .i64 n], .int .u32 a] w fun e w' => e = .returned (.bool (has x n a)) ∧ Below w.heap.size w w' := by
  obtain ⟨wa, hwa⟩ : ∃ wa, wa = w.alloc (.cells #[.int .u32 x, .int .i64 n] 198) := ⟨_, rfl⟩
  have hb0 : Below w.heap.size w wa := by rw [hwa]; exact (Below.refl _ _).alloc (Nat.le_refl _) _
  have r1 : wa.heap[w.heap.size]? = some (.cells #[.int .u32 x, .int .i64 n] 198) := by rw [hwa]; exact heap_alloc_new w _
  obtain ⟨q0, q1⟩ := Beh.two r1
  have HWA := hid hwa
  clear hwa r1
  have V : ∀ b, (err (x, n) == 0) = b → ∀ u : Beh wa, Calls Tryz.prog 144 #[.agg #[.int .u32 x, .int .i64 n]] u.wd fun e w' => e = .returned (.bool b) ∧ ∃ u' : Beh wa, w' = u'.wd :=
    fun b hb u => Calls.beh (by rw [← hb]; exact valid_any x n _ hx)
  cases he : (err (x, n) == 0) with
  | false =>
    have HH : Hid (has x n a = false) := by unfold Hid has; rw [he]; rfl
    have G1 := hid (V false he)
    clear V he
    go_enter Tryz.func115, Tryz.ntmps115
    go_wp2_with fail
    rw [← HWA.out]
    refine (G1.out ⟨wa, Below.refl _ _⟩).mono ?_
    rintro _ _ ⟨rfl, u, rfl⟩
    have hbu := hb0.trans (u.ok.mono hb0.size)
    go_wp2_with fail
    go_ret
    exact ⟨ret_bool HH.out.symm, hbu⟩
  | true =>
    have G1 := hid (V true he)
    by_cases hxa : x ≤ a
    · have F2 : ∀ u : Beh wa, Calls Tryz.prog 145 #[.agg #[.int .u32 x, .int .i64 n]] u.wd fun e w' => e = .returned (.int .u32 ((lst x n : Nat) : Int)) ∧ ∃ u' : Beh wa, w' = u'.wd := by
        obtain ⟨k, hk, hkn, hm⟩ := err_ok (by simpa using he)
        simp only at hkn hm
        have HL : lst x n = x + pw k - 1 := by unfold lst; rw [show 32 - n.toNat = k from by omega]
        exact fun u => Calls.beh (by rw [HL]; exact lastOf_any x k n _ hkn hx hk hm)
      have HH : Hid (has x n a = decide (a ≤ lst x n)) := by unfold Hid has; rw [he]; simp [hxa]
      generalize lst x n = ll at F2 HH
      have G2 := hid F2
      clear V he F2
      go_enter Tryz.func115, Tryz.ntmps115
      go_wp2_with fail
      rw [← HWA.out]
      refine (G1.out ⟨wa, Below.refl _ _⟩).mono ?_
      rintro _ _ ⟨rfl, u1, rfl⟩
      go_wp2_with fail
      refine (G2.out u1).mono ?_
      rintro _ _ ⟨rfl, u, rfl⟩
      have hbu := hb0.trans (u.ok.mono hb0.size)
      go_wp2_with fail
      go_ret
      exact ⟨ret_bool HH.out.symm, hbu⟩
    · have HH : Hid (has x n a = false) := by unfold Hid has; simp [hxa]
      clear V he
      go_enter Tryz.func115, Tryz.ntmps115
      go_wp2_with fail
      rw [← HWA.out]
      refine (G1.out ⟨wa, Below.refl _ _⟩).mono ?_
      rintro _ _ ⟨rfl, u, rfl⟩
      have hbu := hb0.trans (u.ok.mono hb0.size)
      go_wp2_with fail
      go_ret
      exact ⟨ret_bool HH.out.symm, hbu⟩

/-- What an address is for. -/
def cls (a : Nat) : Int := if a / 16777216 = 0 then 1 else if a / 16777216 = 127 then 2 else if 240 ≤ a / 16777216 then 4 else if 224 ≤ a / 16777216 then 3 else 0

theorem ret_cls {k : IntKind} {a b : Int} (h : a = b) : Ending.returned (.int k b) = .returned (.int k a) := by rw [h]

/-- The table of classes. -/
def rowsC : List Value := [.int .u32 0, .int .i64 8, .int .i64 1, .int .u32 2130706432, .int .i64 8, .int .i64 2, .int .u32 3758096384, .int .i64 4, .int .i64 3, .int .u32 4026531840, .int .i64 4, .int .i64 4]

/-- It lies in the world. -/
def TabC (w : World) : Prop := (∀ j (h : j < 12), w.cell? ⟨2, j, none⟩ = some rowsC[j]) ∧ 2 < w.heap.size

theorem TabC.below {w w' : World} (h : TabC w) (hb : Below w.heap.size w w') : TabC w' :=
  ⟨fun j hj => (hb.cell (p := ⟨2, j, none⟩) h.2).trans (h.1 j hj), Nat.lt_of_lt_of_le h.2 hb.size⟩

theorem has_0 (a : Nat) : has 0 8 a = decide (a / 16777216 = 0) := by
  unfold has lst
  rw [show err (0, 8) = 0 from by decide +kernel, show pw (32 - (8 : Int).toNat) = 16777216 from rfl]
  simp; omega
theorem has_1 (a : Nat) : has 2130706432 8 a = decide (a / 16777216 = 127) := by
  unfold has lst
  rw [show err (2130706432, 8) = 0 from by decide +kernel, show pw (32 - (8 : Int).toNat) = 16777216 from rfl]
  simp only [BEq.rfl, Bool.true_and, ← Bool.decide_and]
  congr 1; apply propext; omega
theorem has_2 (a : Nat) : has 3758096384 4 a = decide (224 ≤ a / 16777216 ∧ a / 16777216 < 240) := by
  unfold has lst
  rw [show err (3758096384, 4) = 0 from by decide +kernel, show pw (32 - (4 : Int).toNat) = 268435456 from rfl]
  simp only [BEq.rfl, Bool.true_and, ← Bool.decide_and]
  congr 1; apply propext; omega
theorem has_3 (a : Nat) (ha : a < 4294967296) : has 4026531840 4 a = decide (240 ≤ a / 16777216) := by
  unfold has lst
  rw [show err (4026531840, 4) = 0 from by decide +kernel, show pw (32 - (4 : Int).toNat) = 268435456 from rfl]
  simp only [BEq.rfl, Bool.true_and, ← Bool.decide_and]
  congr 1; apply propext; omega

theorem idx_0 (w : World) :
    (Instr.index 195 (.agg #[.int .u32 0, .int .i64 8, .int .i64 1, .int .u32 2130706432, .int .i64 8, .int .i64 2, .int .u32 3758096384, .int .i64 4, .int .i64 3, .int .u32 4026531840, .int .i64 4, .int .i64 4]) (.int .i64 0)).run Tryz.prog w = .ok (.agg #[.int .u32 0, .int .i64 8, .int .i64 1]) w := by
  have u84 : Tryz.prog.underlying 195 = some (.array 4 194) := by kernel_rfl
  simp [Instr.index, run_underlying u84, asIntOf, go_sem]

theorem idx_1 (w : World) :
    (Instr.index 195 (.agg #[.int .u32 0, .int .i64 8, .int .i64 1, .int .u32 2130706432, .int .i64 8, .int .i64 2, .int .u32 3758096384, .int .i64 4, .int .i64 3, .int .u32 4026531840, .int .i64 4, .int .i64 4]) (.int .i64 1)).run Tryz.prog w = .ok (.agg #[.int .u32 2130706432, .int .i64 8, .int .i64 2]) w := by
  have u84 : Tryz.prog.underlying 195 = some (.array 4 194) := by kernel_rfl
  simp [Instr.index, run_underlying u84, asIntOf, go_sem]

theorem idx_2 (w : World) :
    (Instr.index 195 (.agg #[.int .u32 0, .int .i64 8, .int .i64 1, .int .u32 2130706432, .int .i64 8, .int .i64 2, .int .u32 3758096384, .int .i64 4, .int .i64 3, .int .u32 4026531840, .int .i64 4, .int .i64 4]) (.int .i64 2)).run Tryz.prog w = .ok (.agg #[.int .u32 3758096384, .int .i64 4, .int .i64 3]) w := by
  have u84 : Tryz.prog.underlying 195 = some (.array 4 194) := by kernel_rfl
  simp [Instr.index, run_underlying u84, asIntOf, go_sem]

theorem idx_3 (w : World) :
    (Instr.index 195 (.agg #[.int .u32 0, .int .i64 8, .int .i64 1, .int .u32 2130706432, .int .i64 8, .int .i64 2, .int .u32 3758096384, .int .i64 4, .int .i64 3, .int .u32 4026531840, .int .i64 4, .int .i64 4]) (.int .i64 3)).run Tryz.prog w = .ok (.agg #[.int .u32 4026531840, .int .i64 4, .int .i64 4]) w := by
  have u84 : Tryz.prog.underlying 195 = some (.array 4 194) := by kernel_rfl
  simp [Instr.index, run_underlying u84, asIntOf, go_sem]

theorem contains_at (X : Int) (x : Nat) (n : Int) (a : Nat) (b : Bool) (w : World) (hX : X = (x : Int)) (hx : x < 4294967296) (hb : has x n a = b) :
    Calls Tryz.prog 115 #[.agg #[.int .u32 X, .int .i64 n], .int .u32 a] w fun e w' => e = .returned (.bool b) ∧ Below w.heap.size w w' := by
  subst hX; rw [← hb]; exact contains_any x n a w hx

set_option maxRecDepth 100000 in
theorem class_any (a : Nat) (w : World) (ha : a < 4294967296) (ht : TabC w) :
    Calls Tryz.prog 75 #[.int .u32 a] w fun e w' => e = .returned (.int .i64 (cls a)) ∧ Below w.heap.size w w' := by
  have HTB := hid ht
  have t0 : w.cell? ⟨2, 0, none⟩ = some (.int .u32 0) := ht.1 0 (by omega)
  have t1 : w.cell? ⟨2, 1, none⟩ = some (.int .i64 8) := ht.1 1 (by omega)
  have t2 : w.cell? ⟨2, 2, none⟩ = some (.int .i64 1) := ht.1 2 (by omega)
  have t3 : w.cell? ⟨2, 3, none⟩ = some (.int .u32 2130706432) := ht.1 3 (by omega)
  have t4 : w.cell? ⟨2, 4, none⟩ = some (.int .i64 8) := ht.1 4 (by omega)
  have t5 : w.cell? ⟨2, 5, none⟩ = some (.int .i64 2) := ht.1 5 (by omega)
  have t6 : w.cell? ⟨2, 6, none⟩ = some (.int .u32 3758096384) := ht.1 6 (by omega)
  have t7 : w.cell? ⟨2, 7, none⟩ = some (.int .i64 4) := ht.1 7 (by omega)
  have t8 : w.cell? ⟨2, 8, none⟩ = some (.int .i64 3) := ht.1 8 (by omega)
  have t9 : w.cell? ⟨2, 9, none⟩ = some (.int .u32 4026531840) := ht.1 9 (by omega)
  have t10 : w.cell? ⟨2, 10, none⟩ = some (.int .i64 4) := ht.1 10 (by omega)
  have t11 : w.cell? ⟨2, 11, none⟩ = some (.int .i64 4) := ht.1 11 (by omega)
  clear ht
  have i0 := idx_0
  have i1 := idx_1
  have i2 := idx_2
  have i3 := idx_3
  go_enter Tryz.func75, Tryz.ntmps75
  go_wp2_with fail
  refine wp_loop_rounds 5 ?_
  rw [rounds_succ]
  have hbw0 : Below w.heap.size w w := Below.refl _ _
  go_wp2_with fail
  by_cases h0 : a / 16777216 = 0
  · refine (contains_at 0 0 8 a true _ (by rfl) (by omega) ((has_0 a).trans (decide_eq_true h0))).mono ?_
    rintro e w1 ⟨rfl, hb1⟩
    have hbw1 : Below w.heap.size w w1 := (hbw0.alloc hbw0.size _).trans (hb1.mono (by simp))
    have c2 : w1.cell? ⟨w.heap.size, 2, none⟩ = some (.int .i64 1) := by
      have r : w1.heap[w.heap.size]? = some (.cells #[.int .u32 0, .int .i64 8, .int .i64 1] 194) := by
        rw [hb1.block _ (by simp)]; exact heap_alloc_new w _
      rw [cell_of_row w1 _ 2 _ _ _ r]; rfl
    have HC : Hid (cls a = 1) := by unfold Hid cls; grind
    clear h0
    go_wp2_with fail
    go_ret
    exact ⟨ret_cls HC.out, hbw1⟩
  · refine (contains_at 0 0 8 a false _ (by rfl) (by omega) ((has_0 a).trans (decide_eq_false h0))).mono ?_
    rintro e w1 ⟨rfl, hb1⟩
    have hbw1 : Below w.heap.size w w1 := (hbw0.alloc hbw0.size _).trans (hb1.mono (by simp))
    go_wp2_with fail
    rw [rounds_succ]
    go_wp2_with fail
    by_cases h1 : a / 16777216 = 127
    · refine (contains_at 2130706432 2130706432 8 a true _ (by rfl) (by omega) ((has_1 a).trans (decide_eq_true h1))).mono ?_
      rintro e w2 ⟨rfl, hb2⟩
      have hbw2 : Below w.heap.size w w2 := (hbw1.alloc hbw1.size _).trans (hb2.mono (by have := hbw1.size; simp; omega))
      have c2 : w2.cell? ⟨w1.heap.size, 2, none⟩ = some (.int .i64 2) := by
        have r : w2.heap[w1.heap.size]? = some (.cells #[.int .u32 2130706432, .int .i64 8, .int .i64 2] 194) := by
          rw [hb2.block _ (by simp)]; exact heap_alloc_new w1 _
        rw [cell_of_row w2 _ 2 _ _ _ r]; rfl
      have HC : Hid (cls a = 2) := by unfold Hid cls; grind
      clear h0 h1
      go_wp2_with fail
      go_ret
      exact ⟨ret_cls HC.out, hbw2⟩
    · refine (contains_at 2130706432 2130706432 8 a false _ (by rfl) (by omega) ((has_1 a).trans (decide_eq_false h1))).mono ?_
      rintro e w2 ⟨rfl, hb2⟩
      have hbw2 : Below w.heap.size w w2 := (hbw1.alloc hbw1.size _).trans (hb2.mono (by have := hbw1.size; simp; omega))
      go_wp2_with fail
      rw [rounds_succ]
      go_wp2_with fail
      by_cases h2 : 224 ≤ a / 16777216 ∧ a / 16777216 < 240
      · refine (contains_at 3758096384 3758096384 4 a true _ (by rfl) (by omega) ((has_2 a).trans (decide_eq_true h2))).mono ?_
        rintro e w3 ⟨rfl, hb3⟩
        have hbw3 : Below w.heap.size w w3 := (hbw2.alloc hbw2.size _).trans (hb3.mono (by have := hbw2.size; simp; omega))
        have c2 : w3.cell? ⟨w2.heap.size, 2, none⟩ = some (.int .i64 3) := by
          have r : w3.heap[w2.heap.size]? = some (.cells #[.int .u32 3758096384, .int .i64 4, .int .i64 3] 194) := by
            rw [hb3.block _ (by simp)]; exact heap_alloc_new w2 _
          rw [cell_of_row w3 _ 2 _ _ _ r]; rfl
        have HC : Hid (cls a = 3) := by unfold Hid cls; grind
        clear h0 h1 h2
        go_wp2_with fail
        go_ret
        exact ⟨ret_cls HC.out, hbw3⟩
      · refine (contains_at 3758096384 3758096384 4 a false _ (by rfl) (by omega) ((has_2 a).trans (decide_eq_false h2))).mono ?_
        rintro e w3 ⟨rfl, hb3⟩
        have hbw3 : Below w.heap.size w w3 := (hbw2.alloc hbw2.size _).trans (hb3.mono (by have := hbw2.size; simp; omega))
        go_wp2_with fail
        rw [rounds_succ]
        go_wp2_with fail
        by_cases h3 : 240 ≤ a / 16777216
        · refine (contains_at 4026531840 4026531840 4 a true _ (by rfl) (by omega) ((has_3 a ha).trans (decide_eq_true h3))).mono ?_
          rintro e w4 ⟨rfl, hb4⟩
          have hbw4 : Below w.heap.size w w4 := (hbw3.alloc hbw3.size _).trans (hb4.mono (by have := hbw3.size; simp; omega))
          have c2 : w4.cell? ⟨w3.heap.size, 2, none⟩ = some (.int .i64 4) := by
            have r : w4.heap[w3.heap.size]? = some (.cells #[.int .u32 4026531840, .int .i64 4, .int .i64 4] 194) := by
              rw [hb4.block _ (by simp)]; exact heap_alloc_new w3 _
            rw [cell_of_row w4 _ 2 _ _ _ r]; rfl
          have HC : Hid (cls a = 4) := by unfold Hid cls; grind
          clear h0 h1 h2 h3
          go_wp2_with fail
          go_ret
          exact ⟨ret_cls HC.out, hbw4⟩
        · refine (contains_at 4026531840 4026531840 4 a false _ (by rfl) (by omega) ((has_3 a ha).trans (decide_eq_false h3))).mono ?_
          rintro e w4 ⟨rfl, hb4⟩
          have hbw4 : Below w.heap.size w w4 := (hbw3.alloc hbw3.size _).trans (hb4.mono (by have := hbw3.size; simp; omega))
          go_wp2_with fail
          rw [rounds_succ]
          have HC : Hid (cls a = 0) := by unfold Hid cls; grind
          clear h0 h1 h2 h3
          go_wp2_with fail
          go_ret
          exact ⟨ret_cls HC.out, hbw4⟩
end Go.Proofs.YthmhiehglcfepaaGreatDoor.Ad
