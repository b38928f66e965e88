/-
  Option areas.
-/
import Derived.Test.YtdoeebbcieiimaaMath
namespace Go.Proofs.Ytdoeebbcieiimaa.M

/-- How many bytes the first option of the rest of an area has, 0 if it is none. -/
def opt : List Nat → Nat
  | [] => 0
  | [x] => if x = 1 then 1 else 0
  | x :: y :: t => if x = 1 then 1 else if y < 2 ∨ t.length + 2 < y then 0 else y

/-- How many bytes are read at the head of the rest of an area; none: it is no area. -/
def nxt (r : List Nat) : Option Nat :=
  if r.head? = some 0 then (if r.all (· == 0) then some r.length else none) else if opt r = 0 then none else some (opt r)

theorem nxt_pos {r : List Nat} {k : Nat} (h : nxt r = some k) (hr : r ≠ []) : 0 < k := by
  unfold nxt at h
  split at h
  · split at h
    · simp at h; subst h; exact List.length_pos_iff.2 hr
    · cases h
  · split at h
    · cases h
    · simp at h; omega

theorem opt_le (r : List Nat) : opt r ≤ r.length := by
  match r with
  | [] => simp [opt]
  | [x] => simp only [opt]; split <;> simp
  | x :: y :: t => simp only [opt, List.length_cons]; split <;> (try split) <;> omega

theorem nxt_le {r : List Nat} {k : Nat} (h : nxt r = some k) : k ≤ r.length := by
  unfold nxt at h
  split at h
  · split at h
    · simp at h; omega
    · cases h
  · split at h
    · cases h
    · simp at h; have := opt_le r; omega

def okO (r : List Nat) : Bool :=
  if _hr : r = [] then true
  else match _h : nxt r with
    | none => false
    | some k => okO (r.drop k)
termination_by r.length
decreasing_by
  have h1 := nxt_pos _h _hr
  have h2 := List.length_pos_iff.2 _hr
  rw [List.length_drop]; omega

theorem okO_nil : okO [] = true := by rw [okO]; simp

theorem okO_none {r : List Nat} (hr : r ≠ []) (h : nxt r = none) : okO r = false := by
  rw [okO, dif_neg hr]
  split
  · rfl
  · rename_i k hk; rw [h] at hk; cases hk

theorem okO_some {r : List Nat} {k : Nat} (hr : r ≠ []) (h : nxt r = some k) : okO r = okO (r.drop k) := by
  rw [okO, dif_neg hr]
  split
  · rename_i hk; rw [h] at hk; cases hk
  · rename_i k' hk; rw [h] at hk; cases hk; rfl

def area (o : List Nat) : Bool := decide (o.length ≤ 40) && decide (o.length % 4 = 0) && okO o

/-- The place behind the option at i; -1: none may stand there. -/
def behI (o : List Nat) (i : Nat) : Int := match nxt (o.drop i) with
  | none => -1
  | some k => (i : Int) + (k : Int)

theorem behI_none {o : List Nat} {i : Nat} (h : nxt (o.drop i) = none) : behI o i = -1 := by unfold behI; rw [h]
theorem behI_some {o : List Nat} {i k : Nat} (h : nxt (o.drop i) = some k) : behI o i = (i : Int) + (k : Int) := by unfold behI; rw [h]

theorem nxt_one (t : List Nat) : nxt (1 :: t) = some 1 := by
  cases t <;> simp [nxt, opt]

theorem nxt_zero_ok {t : List Nat} (h : (0 :: t).all (· == 0) = true) : nxt (0 :: t) = some (0 :: t).length := by
  unfold nxt; rw [if_pos (by simp), if_pos h]

theorem nxt_zero_no {t : List Nat} (h : (0 :: t).all (· == 0) = false) : nxt (0 :: t) = none := by
  unfold nxt; rw [if_pos (by simp), if_neg (by rw [h]; simp)]

theorem nxt_last {x : Nat} (h0 : x ≠ 0) (h1 : x ≠ 1) : nxt [x] = none := by
  unfold nxt; rw [if_neg (by simp [h0])]; simp [opt, h1]

theorem nxt_bad {x y : Nat} {t : List Nat} (h0 : x ≠ 0) (h1 : x ≠ 1) (h : y < 2 ∨ t.length + 2 < y) : nxt (x :: y :: t) = none := by
  have e : opt (x :: y :: t) = 0 := by simp only [opt]; rw [if_neg h1, if_pos h]
  unfold nxt; rw [if_neg (by simp [h0]), if_pos e]

theorem nxt_good {x y : Nat} {t : List Nat} (h0 : x ≠ 0) (h1 : x ≠ 1) (h : ¬ (y < 2 ∨ t.length + 2 < y)) : nxt (x :: y :: t) = some y := by
  have e : opt (x :: y :: t) = y := by simp only [opt]; rw [if_neg h1, if_neg h]
  unfold nxt; rw [if_neg (by simp [h0]), if_neg (by rw [e]; omega), e]

def pieceOk (off : Int) (n : Nat) (more : Bool) : Bool :=
  decide (0 ≤ off) && decide (off ≤ 65528) && decide (off % 8 = 0) && decide (off + n ≤ 65535) && (!more || (decide (0 < n) && decide (n % 8 = 0)))

end Go.Proofs.Ytdoeebbcieiimaa.M
