/-
  Plain mathematics of texts: numbers in digits, dotted quads, read from the left or cut at the dots.
-/
import Derived.Lib.ItoaNum
namespace Go.Proofs.YtenhofbhkchjoabDoor.S
open Go.Lib

def isDig (c : UInt8) : Bool := decide (48 ≤ c.toNat) && decide (c.toNat ≤ 57)
def val (l : List UInt8) : Nat := l.foldl (fun a c => a * 10 + (c.toNat - 48)) 0
/-- The digits that a text begins with. -/
def run (l : List UInt8) : List UInt8 := l.takeWhile isDig

/-- The number from 0 to most whose text l is. -/
def num (l : List UInt8) (most : Nat) : Option Nat := (List.range (most + 1)).find? fun n => decDigits n == l

/-- What leadingNumber answers. -/
def lead (l : List UInt8) (most : Nat) : Nat × Nat :=
  if most < val (run l) ∨ (1 < (run l).length ∧ l.head? = some 48) then (0, 0) else (val (run l), (run l).length)

theorem val_snoc (l : List UInt8) (c : UInt8) : val (l ++ [c]) = val l * 10 + (c.toNat - 48) := by simp [val]

theorem val_mono (l t : List UInt8) : val l ≤ val (l ++ t) := by
  induction t generalizing l with
  | nil => simp
  | cons c t ih =>
    have := ih (l ++ [c])
    rw [List.append_assoc] at this
    have h2 := val_snoc l c
    simp only [List.singleton_append] at this
    omega

theorem dec_ok : ∀ n, n < 256 → ((decDigits n).all isDig && decide (val (decDigits n) = n) && decide (1 ≤ (decDigits n).length) && decide ((decDigits n).length ≤ 3) && (decide ((decDigits n).length ≤ 1) || decide ((decDigits n).head? ≠ some 48))) = true := by
  decide +kernel

theorem dec_facts {n : Nat} (h : n < 256) : (∀ c, c ∈ decDigits n → isDig c = true) ∧ val (decDigits n) = n ∧ 1 ≤ (decDigits n).length ∧ (decDigits n).length ≤ 3 ∧ ((decDigits n).length ≤ 1 ∨ (decDigits n).head? ≠ some 48) := by
  have := dec_ok n h
  simp only [Bool.and_eq_true, Bool.or_eq_true, decide_eq_true_eq, List.all_eq_true] at this
  obtain ⟨⟨⟨⟨a, b⟩, c⟩, d⟩, e⟩ := this
  exact ⟨a, b, c, d, e⟩

theorem num_some {l : List UInt8} {most n : Nat} (hm : most < 256) : num l most = some n ↔ (n ≤ most ∧ decDigits n = l) := by
  unfold num
  constructor
  · intro h
    have h1 := List.find?_some h
    have h2 := List.mem_of_find?_eq_some h
    simp at h1 h2
    exact ⟨by omega, h1⟩
  · rintro ⟨h1, rfl⟩
    cases e : (List.range (most + 1)).find? fun m => decDigits m == decDigits n with
    | none =>
      have := List.find?_eq_none.1 e n (by simp; omega)
      simp at this
    | some m =>
      have h3 := List.find?_some e
      have h4 := List.mem_of_find?_eq_some e
      simp at h3 h4
      have a := (dec_facts (n := m) (by omega)).2.1
      have b := (dec_facts (n := n) (by omega)).2.1
      rw [h3] at a
      rw [← a, b]

theorem num_none {l : List UInt8} {most : Nat} (hm : most < 256) (h : ∀ n, n ≤ most → decDigits n ≠ l) : num l most = none := by
  cases e : num l most with
  | none => rfl
  | some n => exact absurd ((num_some hm).1 e).2 (h n ((num_some hm).1 e).1)

theorem dig_back {c : UInt8} (h : isDig c = true) : UInt8.ofNat (48 + (c.toNat - 48)) = c := by
  simp [isDig] at h
  rw [show 48 + (c.toNat - 48) = c.toNat from by omega]
  simp

theorem snoc_cases (l : List UInt8) : l = [] ∨ ∃ t c, l = t ++ [c] := by
  rcases List.eq_nil_or_concat l with h | ⟨t, c, h⟩
  · exact .inl h
  · exact .inr ⟨t, c, by simpa using h⟩

/-- A row of digits without a leading zero is the text of its number. -/
theorem dec_of_val : ∀ (k : Nat) (l : List UInt8), l.length = k + 1 → (∀ c, c ∈ l → isDig c = true) → (l.length ≤ 1 ∨ l.head? ≠ some 48) → decDigits (val l) = l ∧ (l.head? ≠ some 48 → 1 ≤ val l) := by
  intro k
  induction k with
  | zero =>
    intro l hl hd _
    match l, hl with
    | [c], _ =>
      have hc := hd c (by simp)
      have hv : val [c] = c.toNat - 48 := by simp [val]
      have hb := dig_back hc
      simp [isDig] at hc
      rw [hv]
      constructor
      · rw [decDigits, dif_pos (by omega), hb]
      · intro h
        simp at h
        have : c.toNat ≠ 48 := fun e => h (by rw [← UInt8.toNat_inj]; simpa using e)
        omega
  | succ k ih =>
    intro l hl hd hz
    rcases snoc_cases l with rfl | ⟨t, c, rfl⟩
    · simp at hl
    · have htl : t.length = k + 1 := by simpa using hl
      have hh : (t ++ [c]).head? = t.head? := by
        cases t with
        | nil => simp at htl
        | cons a b => rfl
      have hz' : t.head? ≠ some 48 := by
        rcases hz with h | h
        · simp at h; rw [h] at htl; simp at htl
        · rwa [hh] at h
      have hc := hd c (by simp)
      obtain ⟨i1, i2⟩ := ih t htl (fun a ha => hd a (by simp [ha])) (.inr hz')
      have i2' := i2 hz'
      have hb := dig_back hc
      simp [isDig] at hc
      rw [val_snoc]
      refine ⟨?_, fun _ => by omega⟩
      rw [decDigits, dif_neg (by omega), show (val t * 10 + (c.toNat - 48)) / 10 = val t from by omega, show (val t * 10 + (c.toNat - 48)) % 10 = c.toNat - 48 from by omega, i1, hb]

theorem run_dig (l : List UInt8) : ∀ c, c ∈ run l → isDig c = true := by
  intro c hc
  have := List.all_takeWhile (l := l) (p := isDig)
  exact List.all_eq_true.1 this c hc

theorem run_head {l : List UInt8} (h : run l ≠ []) : (run l).head? = l.head? := by
  cases l with
  | nil => exact absurd rfl h
  | cons a t =>
    unfold run at *
    by_cases e : isDig a = true
    · simp [e]
    · simp [e] at h

/-- leadingNumber reads the number whose text the digits are. -/
theorem lead_num (l : List UInt8) (most : Nat) (hm : most < 256) : lead l most = match num (run l) most with | some n => (n, (run l).length) | none => (0, 0) := by
  by_cases hr : run l = []
  · have hn : num (run l) most = none := num_none hm (fun n hn e => by have := (dec_facts (n := n) (by omega)).2.2.1; rw [e, hr] at this; simp at this)
    rw [hn]
    unfold lead
    rw [hr]; simp [val]
  · have hlen : 1 ≤ (run l).length := List.length_pos_iff.2 hr
    unfold lead
    rw [← run_head hr]
    split
    · rename_i hc
      rw [num_none hm]
      intro n hn e
      have f := dec_facts (n := n) (by omega)
      rw [e] at f
      rcases hc with hc | hc
      · have := f.2.1; omega
      · rcases f.2.2.2.2 with g | g
        · omega
        · exact g hc.2
    · rename_i hc
      have hd : decDigits (val (run l)) = run l := (dec_of_val ((run l).length - 1) (run l) (by omega) (run_dig l) (by
        rcases Nat.lt_or_ge 1 (run l).length with g | g
        · exact .inr (fun e => hc (.inr ⟨g, e⟩))
        · exact .inl g)).1
      rw [(num_some hm).2 ⟨by omega, hd⟩]

/-- A dotted quad, read from the left; k parts more behind this one. -/
def aq : Nat → List UInt8 → Nat → Option Nat
  | 0, l, acc => match num (run l) 255, l.dropWhile isDig with
    | some n, [] => some (acc * 256 + n)
    | _, _ => none
  | k + 1, l, acc => match num (run l) 255, l.dropWhile isDig with
    | some n, c :: t => if c = 46 then aq k t (acc * 256 + n) else none
    | _, _ => none

def nodot (c : UInt8) : Bool := decide (c ≠ 46)
def piece (l : List UInt8) : List UInt8 := l.takeWhile nodot

/-- A dotted quad, cut at the dots. -/
def rq : Nat → List UInt8 → Nat → Option Nat
  | 0, l, acc => match num (piece l) 255, l.dropWhile nodot with
    | some n, [] => some (acc * 256 + n)
    | _, _ => none
  | k + 1, l, acc => match num (piece l) 255, l.dropWhile nodot with
    | some n, _ :: t => rq k t (acc * 256 + n)
    | _, _ => none

theorem take_drop_while (p : UInt8 → Bool) (l : List UInt8) : l.drop (l.takeWhile p).length = l.dropWhile p := by
  induction l with
  | nil => rfl
  | cons a t ih =>
    by_cases h : p a = true
    · simp [h, ih]
    · simp [h]

theorem dw_head (p : UInt8 → Bool) : ∀ (l : List UInt8) (c : UInt8) (t : List UInt8), l.dropWhile p = c :: t → p c = false := by
  intro l
  induction l with
  | nil => intro c t h; cases h
  | cons a u ih =>
    intro c t h
    by_cases e : p a = true
    · rw [List.dropWhile_cons_of_pos e] at h; exact ih c t h
    · rw [List.dropWhile_cons_of_neg e] at h
      cases h; simpa using e

theorem split_run (l : List UInt8) : l = run l ++ l.dropWhile isDig := (List.takeWhile_append_dropWhile (p := isDig) (l := l)).symm

theorem dig_ne {c : UInt8} (h : isDig c = true) : nodot c = true := by
  simp [isDig] at h
  simp [nodot]
  intro e
  subst e
  simp at h

/-- The text up to the first dot: the digits, or more. -/
theorem piece_run (l : List UInt8) : piece l = run l ++ piece (l.dropWhile isDig) ∧ l.dropWhile nodot = (l.dropWhile isDig).dropWhile nodot := by
  have h : ∀ (a b : List UInt8), (∀ c, c ∈ a → isDig c = true) → piece (a ++ b) = a ++ piece b ∧ (a ++ b).dropWhile nodot = b.dropWhile nodot := by
    intro a b ha
    induction a with
    | nil => exact ⟨rfl, rfl⟩
    | cons c a ih =>
      obtain ⟨i1, i2⟩ := ih (fun d hd => ha d (by simp [hd]))
      have hc := dig_ne (ha c (by simp))
      unfold piece at *
      rw [List.cons_append, List.takeWhile_cons_of_pos hc, i1, List.cons_append, List.dropWhile_cons_of_pos hc, i2]
      exact ⟨rfl, rfl⟩
  have := h (run l) (l.dropWhile isDig) (run_dig l)
  rwa [← split_run l] at this

theorem num_bad {l : List UInt8} {c : UInt8} (hc : c ∈ l) (hd : isDig c = false) : num l 255 = none :=
  num_none (by omega) (fun n hn e => by
    have := (dec_facts (n := n) (by omega)).1 c (by rw [e]; exact hc)
    rw [hd] at this; cases this)

theorem aq_rq : ∀ (k : Nat) (l : List UInt8) (acc : Nat), aq k l acc = rq k l acc := by
  intro k
  induction k with
  | zero =>
    intro l acc
    obtain ⟨p1, p2⟩ := piece_run l
    simp only [aq, rq]
    rw [p1, p2]
    cases e : l.dropWhile isDig with
    | nil => simp [piece]
    | cons c t =>
      have hc := dw_head isDig l c t e
      by_cases hdot : c = 46
      · subst hdot
        have h1 : piece (46 :: t) = [] := by simp [piece, nodot]
        have h2 : (46 :: t).dropWhile nodot = 46 :: t := by simp [nodot]
        rw [h1, h2, List.append_nil]
      · have hin : c ∈ run l ++ piece (c :: t) := by unfold piece; simp [nodot, hdot]
        rw [num_bad hin hc]
        cases num (run l) 255 <;> rfl
  | succ k ih =>
    intro l acc
    obtain ⟨p1, p2⟩ := piece_run l
    simp only [aq, rq]
    rw [p1, p2]
    cases e : l.dropWhile isDig with
    | nil => cases num (run l) 255 <;> simp [piece]
    | cons c t =>
      have hc := dw_head isDig l c t e
      by_cases hdot : c = 46
      · subst hdot
        have h1 : piece (46 :: t) = [] := by simp [piece, nodot]
        have h2 : (46 :: t).dropWhile nodot = 46 :: t := by simp [nodot]
        rw [h1, h2, List.append_nil]
        cases num (run l) 255 with
        | none => rfl
        | some n => exact (if_pos rfl).trans (ih t _)
      · have hin : c ∈ run l ++ piece (c :: t) := by unfold piece; simp [nodot, hdot]
        rw [num_bad hin hc]
        cases num (run l) 255 with
        | none => rfl
        | some n => exact if_neg hdot

theorem num_len {l : List UInt8} {n : Nat} (h : num l 255 = some n) : l.length ≤ 3 ∧ n ≤ 255 := by
  have h1 := (num_some (by omega)).1 h
  have f := (dec_facts (n := n) (by omega)).2.2.2.1
  rw [h1.2] at f
  exact ⟨f, h1.1⟩

theorem rq_len : ∀ (k : Nat) (l : List UInt8) (acc a : Nat), rq k l acc = some a → l.length ≤ 4 * k + 3 ∧ a < (acc + 1) * 256 ^ (k + 1) := by
  intro k
  induction k with
  | zero =>
    intro l acc a h
    simp only [rq] at h
    have hs := take_drop_while nodot l
    cases e : num (piece l) 255 with
    | none => rw [e] at h; cases h
    | some n =>
      cases eb : l.dropWhile nodot with
      | nil =>
        rw [e, eb] at h
        have h1 := num_len e
        rw [eb] at hs
        have h2 := congrArg List.length hs
        rw [List.length_drop] at h2
        simp at h h2
        have h3 : (piece l).length = (List.takeWhile nodot l).length := rfl
        omega
      | cons c t => rw [e, eb] at h; cases h
  | succ k ih =>
    intro l acc a h
    simp only [rq] at h
    have hs := take_drop_while nodot l
    cases e : num (piece l) 255 with
    | none => rw [e] at h; cases h
    | some n =>
      cases eb : l.dropWhile nodot with
      | nil => rw [e, eb] at h; cases h
      | cons c t =>
        rw [e, eb] at h
        have h1 := num_len e
        have h4 := ih t _ a h
        rw [eb] at hs
        have h2 := congrArg List.length hs
        rw [List.length_drop] at h2
        simp at h2
        have h3 : (piece l).length = (List.takeWhile nodot l).length := rfl
        have h5 : (acc * 256 + n + 1) * 256 ^ (k + 1) ≤ ((acc + 1) * 256) * 256 ^ (k + 1) := Nat.mul_le_mul_right _ (by omega)
        refine ⟨by omega, ?_⟩
        rw [Nat.pow_succ 256 (k + 1), Nat.mul_comm (256 ^ (k + 1)) 256, ← Nat.mul_assoc]
        omega

/-- The address whose text l is. -/
def pa (l : List UInt8) : Option Nat := rq 3 l 0

theorem pa_len {l : List UInt8} {a : Nat} (h : pa l = some a) : l.length ≤ 15 ∧ a < 4294967296 := by
  have := rq_len 3 l 0 a h
  simpa using this
end Go.Proofs.YtenhofbhkchjoabDoor.S
