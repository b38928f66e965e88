/-
  Control messages as lists of bytes: what is laid, what is read.
-/
import Derived.Test.YtcelcnafcfefhaaNMath
namespace Go.Proofs.Ytcelcnafcfefhaa.N.Im
open M

/-- A control message. -/
structure Ct where
  t : Nat
  c : Nat
  r : Nat
  B : List Nat

structure Ct.Ok (m : Ct) : Prop where
  t : m.t < 256
  c : m.c < 256
  r : m.r < 4294967296

/-- What lies behind the sum's field. -/
def tail (m : Ct) : List Nat := m.r / 65536 / 256 :: m.r / 65536 % 256 :: m.r % 65536 / 256 :: m.r % 65536 % 256 :: m.B

/-- A message with that in its sum's place. -/
def msg (m : Ct) (s : Nat) : List Nat := m.t :: m.c :: s / 256 :: s % 256 :: tail m

/-- A message with its sum. -/
def laid (m : Ct) : List Nat := msg m (csum (msg m 0))

theorem msg_len (m : Ct) (s : Nat) : (msg m s).length = 8 + m.B.length := by simp [msg, tail]; omega
theorem laid_len (m : Ct) : (laid m).length = 8 + m.B.length := msg_len _ _

theorem tot_msg (m : Ct) (s : Nat) : tot false (msg m s) = tot false (msg m 0) + s := by
  simp only [msg, tot]; simp; omega

theorem csum_laid (m : Ct) : csum (laid m) = 0 := by
  unfold laid
  generalize hT : csum (msg m 0) = s
  unfold csum at hT ⊢
  rw [tot_msg]
  generalize tot false (msg m 0) = T at *
  subst hT
  unfold fold
  by_cases h0 : T = 0
  · subst h0; simp
  · rw [if_neg h0, if_neg (by omega)]
    omega

theorem msg_bytes {m : Ct} (h : m.Ok) (hb : ∀ x ∈ m.B, x < 256) {s : Nat} (hs : s < 65536) : ∀ x ∈ msg m s, x < 256 := by
  obtain ⟨h1, h2, h3⟩ := h
  intro x hx
  simp only [msg, tail, List.mem_cons] at hx
  rcases hx with rfl | rfl | rfl | rfl | rfl | rfl | rfl | rfl | hx
  · exact h1
  · exact h2
  · omega
  · omega
  · omega
  · omega
  · omega
  · omega
  · exact hb x hx

theorem laid_bytes {m : Ct} (h : m.Ok) (hb : ∀ x ∈ m.B, x < 256) : ∀ x ∈ laid m, x < 256 := msg_bytes h hb (csum_lt _)

/-- The error of reading. -/
def prE (L : List Nat) : Int := if L.length < 8 then 30 else if 65515 < L.length then 37 else if csum L = 0 then 0 else 33

def at0 (L : List Nat) (i : Nat) : Nat := L.getD i 0

def rest4 (L : List Nat) : Nat := (at0 L 4 * 256 + at0 L 5) * 65536 + (at0 L 6 * 256 + at0 L 7)

def none0 : Ct := ⟨0, 0, 0, []⟩

/-- What is read. -/
def prC (L : List Nat) : Ct := if prE L = 0 then ⟨at0 L 0, at0 L 1, rest4 L, L.drop 8⟩ else none0

theorem at0_lt {L : List Nat} (h : ∀ x ∈ L, x < 256) (i : Nat) : at0 L i < 256 := by
  unfold at0
  rw [List.getD_eq_getElem?_getD]
  cases e : L[i]? with
  | none => simp
  | some x => exact h x (List.mem_of_getElem? e)

theorem rest4_lt {L : List Nat} (h : ∀ x ∈ L, x < 256) : rest4 L < 4294967296 := by
  have h4 := at0_lt h 4
  have h5 := at0_lt h 5
  have h6 := at0_lt h 6
  have h7 := at0_lt h 7
  unfold rest4; omega

theorem none_ok : none0.Ok := ⟨by decide, by decide, by decide⟩

theorem prC_ok {L : List Nat} (h : ∀ x ∈ L, x < 256) : (prC L).Ok := by
  unfold prC
  split
  · exact ⟨at0_lt h 0, at0_lt h 1, rest4_lt h⟩
  · exact none_ok

theorem prC_bytes {L : List Nat} (h : ∀ x ∈ L, x < 256) : ∀ x ∈ (prC L).B, x < 256 := by
  unfold prC
  split
  · intro x hx; exact h x (List.mem_of_mem_drop hx)
  · intro x hx; cases hx

theorem prC_len (L : List Nat) : (prC L).B.length ≤ 65507 := by
  unfold prC
  split
  · rename_i h
    unfold prE at h
    split at h
    · cases h
    · split at h
      · cases h
      · show (L.drop 8).length ≤ 65507
        rw [List.length_drop]; omega
  · simp [none0]

theorem prE_cases (L : List Nat) : prE L = 0 ∨ prE L = 30 ∨ prE L = 37 ∨ prE L = 33 := by
  unfold prE
  split
  · simp
  · split
    · simp
    · split <;> simp

/-- What was laid is read back. -/
theorem prE_laid (m : Ct) (hl : m.B.length ≤ 65507) : prE (laid m) = 0 := by
  unfold prE
  rw [laid_len, if_neg (by omega), if_neg (by omega), if_pos (csum_laid m)]

theorem prC_laid (m : Ct) (h : m.Ok) (hl : m.B.length ≤ 65507) : prC (laid m) = m := by
  obtain ⟨h1, h2, h3⟩ := h
  unfold prC
  rw [if_pos (prE_laid m hl)]
  obtain ⟨t, c, r, B⟩ := m
  simp only at h3
  simp only [laid, msg, tail, at0, rest4, List.getD_cons_zero, List.getD_cons_succ, List.drop_succ_cons, List.drop_zero]
  congr 1
  omega

/-- What is built. -/
def bdE (m : Ct) : Int := if 65507 < m.B.length then 37 else 0
def bdL (m : Ct) : List Nat := if 65507 < m.B.length then [] else laid m

theorem tot_set (L : List Nat) : ∀ (o : Bool) (i y : Nat), i < L.length → ∃ wt, (wt = 1 ∨ wt = 256) ∧ tot o (L.set i y) + wt * L.getD i 0 = tot o L + wt * y := by
  induction L with
  | nil => intro o i y h; simp at h
  | cons x L ih =>
    intro o i y h
    cases i with
    | zero =>
      cases o
      · exact ⟨256, .inr rfl, by simp only [List.set_cons_zero, tot, List.getD_cons_zero]; simp; omega⟩
      · exact ⟨1, .inl rfl, by simp only [List.set_cons_zero, tot, List.getD_cons_zero]; simp; omega⟩
    | succ i =>
      obtain ⟨wt, h1, h2⟩ := ih (!o) i y (by simpa using h)
      refine ⟨wt, h1, ?_⟩
      simp only [List.set_cons_succ, tot, List.getD_cons_succ]
      omega

theorem csum_zero {L : List Nat} (h : csum L = 0) : tot false L ≠ 0 ∧ tot false L % 65535 = 0 := by
  unfold csum fold at h
  split at h
  · omega
  · omega

/-- One bit. -/
def IsBit (m : Nat) : Prop := m = 1 ∨ m = 2 ∨ m = 4 ∨ m = 8 ∨ m = 16 ∨ m = 32 ∨ m = 64 ∨ m = 128

theorem csum_flip {L : List Nat} {i x y m : Nat} (hi : i < L.length) (hx : L.getD i 0 = x) (hm : IsBit m) (hxy : y = x + m ∨ x = y + m) (h0 : csum L = 0) : csum (L.set i y) ≠ 0 := by
  intro h1
  obtain ⟨a1, a2⟩ := csum_zero h0
  obtain ⟨b1, b2⟩ := csum_zero h1
  obtain ⟨wt, hw, e⟩ := tot_set L false i y hi
  rw [hx] at e
  generalize tot false (L.set i y) = T' at *
  generalize tot false L = T at *
  unfold IsBit at hm
  rcases hw with rfl | rfl <;> rcases hm with rfl | rfl | rfl | rfl | rfl | rfl | rfl | rfl <;> omega

/-- What was read is a message. -/
theorem msg_read {L : List Nat} (hb : ∀ x ∈ L, x < 256) (h : prE L = 0) : L = msg (prC L) (at0 L 2 * 256 + at0 L 3) ∧ at0 L 2 * 256 + at0 L 3 < 65536 := by
  have h2 := at0_lt hb 2
  have h3 := at0_lt hb 3
  refine ⟨?_, by omega⟩
  unfold prC
  rw [if_pos h]
  have hl : 8 ≤ L.length := by
    unfold prE at h
    split at h
    · cases h
    · omega
  match L, hl with
  | a :: b :: c :: d :: e :: f :: g :: k :: B, _ =>
    have q : ∀ x ∈ [a, b, c, d, e, f, g, k], x < 256 := fun x hx => hb x (by simp only [List.mem_cons, List.not_mem_nil, or_false] at hx ⊢; rcases hx with h | h | h | h | h | h | h | h <;> simp [h])
    simp only [List.mem_cons, List.not_mem_nil, or_false, forall_eq_or_imp, forall_eq] at q
    obtain ⟨qa, qb, qc, qd, qe, qf, qg, qk⟩ := q
    simp only [msg, tail, at0, rest4, List.getD_cons_zero, List.getD_cons_succ, List.drop_succ_cons, List.drop_zero]
    congr 1; congr 1
    congr 1
    · omega
    · congr 1
      · omega
      · congr 1
        · omega
        · congr 1
          · omega
          · congr 1
            · omega
            · congr 1
              omega

/-- The sum of what was read, laid anew. -/
theorem sum_read {L : List Nat} (hb : ∀ x ∈ L, x < 256) (h : prE L = 0) :
    at0 L 2 * 256 + at0 L 3 = csum (msg (prC L) 0) ∨ (at0 L 2 * 256 + at0 L 3 = 65535 ∧ csum (msg (prC L) 0) = 0) := by
  obtain ⟨e, hs⟩ := msg_read hb h
  have h0 : csum L = 0 := by
    unfold prE at h
    split at h
    · cases h
    · split at h
      · cases h
      · split at h
        · assumption
        · cases h
  obtain ⟨a1, a2⟩ := csum_zero h0
  rw [e, tot_msg] at a1 a2
  generalize at0 L 2 * 256 + at0 L 3 = s at *
  unfold csum fold
  generalize tot false (msg (prC L) 0) = T at *
  split <;> omega
end Go.Proofs.Ytcelcnafcfefhaa.N.Im
