/-
  Prefixes by numbers, and the tree of prefixes.
-/
import Derived.Lib.ItoaNum
import Derived.Test.YtmnafocmbcgdiabProg
namespace Go.Proofs.Ytmnafocmbcgdiab
namespace Tri

/-- A prefix: its first address, its length. -/
structure K where
  x : Nat
  n : Nat
deriving DecidableEq

def K.s (k : K) : Nat := 2 ^ (32 - k.n)
def K.h (k : K) : Nat := k.s / 2
def K.Ok (k : K) : Prop := k.n ≤ 32 ∧ k.s ∣ k.x ∧ k.x < 4294967296
/-- p lies in q. -/
def Ins (p q : K) : Prop := q.x ≤ p.x ∧ p.x + p.s ≤ q.x + q.s

theorem K.ext' {p q : K} (h1 : p.x = q.x) (h2 : p.n = q.n) : p = q := by cases p; cases q; simp_all

theorem K.s_pos (k : K) : 0 < k.s := Nat.pow_pos (by omega)

theorem step {s a b : Nat} (h1 : s ∣ a) (h2 : s ∣ b) (h : a < b) : a + s ≤ b := by
  obtain ⟨i, rfl⟩ := h1
  obtain ⟨j, rfl⟩ := h2
  have : i < j := Nat.lt_of_mul_lt_mul_left h
  have := Nat.mul_le_mul_left s this
  rw [Nat.mul_succ] at this
  exact this

theorem s_dvd {p q : K} (h : q.n ≤ p.n) : p.s ∣ q.s := Nat.pow_dvd_pow 2 (by omega)

theorem s_dvd_h {p q : K} (h : q.n < p.n) (hp : p.n ≤ 32) : p.s ∣ q.h := by
  have e : q.s = 2 * 2 ^ (31 - q.n) := by
    unfold K.s
    rw [show 32 - q.n = (31 - q.n) + 1 by omega, Nat.pow_succ, Nat.mul_comm]
  unfold K.h
  rw [e, Nat.mul_div_cancel_left _ (by omega)]
  exact Nat.pow_dvd_pow 2 (by omega)

theorem s_two {q : K} (h : q.n < 32) : q.s = 2 * q.h := by
  have e : q.s = 2 * 2 ^ (31 - q.n) := by
    unfold K.s
    rw [show 32 - q.n = (31 - q.n) + 1 by omega, Nat.pow_succ, Nat.mul_comm]
  unfold K.h
  omega

theorem s_last {q : K} (h : q.n = 32) : q.s = 1 ∧ q.h = 0 := by
  unfold K.h K.s
  rw [h]
  simp

theorem h2_le (q : K) : 2 * q.h ≤ q.s := by unfold K.h; omega

theorem s_le32 (k : K) : k.s ∣ 4294967296 := by
  have : (4294967296 : Nat) = 2 ^ 32 := by decide
  rw [this]
  exact Nat.pow_dvd_pow 2 (by omega)

theorem K.Ok.end {k : K} (h : k.Ok) : k.x + k.s ≤ 4294967296 := step h.2.1 (s_le32 k) h.2.2

/-- Two prefixes: the one lies in the other, or they are apart. -/
theorem nest {p q : K} (hp : p.Ok) (hq : q.Ok) (h : q.n ≤ p.n) : Ins p q ∨ p.x + p.s ≤ q.x ∨ q.x + q.s ≤ p.x := by
  have d1 := hp.2.1
  have d2 : p.s ∣ q.x := Nat.dvd_trans (s_dvd h) hq.2.1
  have d3 : p.s ∣ q.x + q.s := Nat.dvd_add d2 (s_dvd h)
  by_cases h1 : p.x < q.x
  · exact .inr (.inl (step d1 d2 h1))
  · by_cases h2 : p.x < q.x + q.s
    · exact .inl ⟨by omega, step d1 d3 h2⟩
    · exact .inr (.inr (by omega))

theorem ins_len {p q : K} (hp : p.Ok) (hq : q.Ok) (h : Ins p q) : q.n ≤ p.n := by
  have h1 : p.s ≤ q.s := by have := h.1; have := h.2; omega
  unfold K.s at h1
  have h2 := (Nat.pow_le_pow_iff_right (by omega : 1 < 2)).1 h1
  have := hp.1
  have := hq.1
  omega

theorem ins_eq {p q : K} (h : Ins p q) (e : p.n = q.n) : p = q := by
  have hs : p.s = q.s := by unfold K.s; rw [e]
  exact K.ext' (by have := h.1; have := h.2; omega) e

theorem Ins.trans {p q r : K} (h1 : Ins p q) (h2 : Ins q r) : Ins p r := ⟨Nat.le_trans h2.1 h1.1, Nat.le_trans h1.2 h2.2⟩

/-- What lies in a prefix and is another one lies in one of its halves. -/
theorem halves {p q : K} (hp : p.Ok) (hq : q.Ok) (h : Ins p q) (hne : p ≠ q) : q.n < p.n ∧ (p.x + p.s ≤ q.x + q.h ∨ (q.x + q.h ≤ p.x ∧ p.x + p.s ≤ q.x + 2 * q.h)) := by
  have h1 := ins_len hp hq h
  have h2 : q.n < p.n := by
    rcases Nat.lt_or_ge q.n p.n with h3 | h3
    · exact h3
    · exact absurd (ins_eq h (by omega)) hne
  refine ⟨h2, ?_⟩
  have hp1 := hp.1
  have d1 := hp.2.1
  have d2 : p.s ∣ q.x := Nat.dvd_trans (s_dvd h1) hq.2.1
  have d3 : p.s ∣ q.x + q.h := Nat.dvd_add d2 (s_dvd_h h2 hp1)
  have e := s_two (q := q) (by omega)
  by_cases h3 : p.x < q.x + q.h
  · exact .inl (step d1 d3 h3)
  · exact .inr ⟨by omega, by have := h.2; omega⟩

/-- The tree of prefixes. -/
inductive Tr where
  | nil : Tr
  | node (k : K) (u : Option Int) (l r : Tr) : Tr

def own (k : K) : Option Int → List (K × Int)
  | none => []
  | some a => [(k, a)]

/-- All entries, rising. -/
def ents : Tr → List (K × Int)
  | .nil => []
  | .node k u l r => own k u ++ (ents l ++ ents r)

def nodes : Tr → Nat
  | .nil => 0
  | .node _ _ l r => nodes l + nodes r + 1

def vals : Tr → Nat
  | .nil => 0
  | .node _ u l r => vals l + vals r + (if u.isSome then 1 else 0)

/-- A tree inside the addresses from lo to below hi. -/
def WF : Nat → Nat → Tr → Prop
  | _, _, .nil => True
  | lo, hi, .node k u l r => k.Ok ∧ lo ≤ k.x ∧ k.x + k.s ≤ hi ∧ WF k.x (k.x + k.h) l ∧ WF (k.x + k.h) (k.x + 2 * k.h) r ∧ (u = none → l ≠ .nil ∧ r ≠ .nil)

def join (p : K) : Option Int → Tr → Tr → Tr
  | none, .nil, r => r
  | none, l, .nil => l
  | v, l, r => .node p v l r

theorem ents_join (p : K) (v : Option Int) (l r : Tr) : ents (join p v l r) = own p v ++ (ents l ++ ents r) := by
  cases v <;> cases l <;> cases r <;> simp [join, ents, own]

theorem WF.mono {lo hi lo' hi' : Nat} {t : Tr} (h : WF lo hi t) (h1 : lo' ≤ lo) (h2 : hi ≤ hi') : WF lo' hi' t := by
  cases t with
  | nil => trivial
  | node k u l r => exact ⟨h.1, Nat.le_trans h1 h.2.1, Nat.le_trans h.2.2.1 h2, h.2.2.2⟩

theorem WF_join {lo hi : Nat} {p : K} {v : Option Int} {l r : Tr} (hp : p.Ok) (h1 : lo ≤ p.x) (h2 : p.x + p.s ≤ hi) (hl : WF p.x (p.x + p.h) l) (hr : WF (p.x + p.h) (p.x + 2 * p.h) r) : WF lo hi (join p v l r) := by
  have e := h2_le p
  cases v with
  | some a =>
    have : join p (some a) l r = .node p (some a) l r := by cases l <;> cases r <;> rfl
    rw [this]
    exact ⟨hp, h1, h2, hl, hr, fun h => by simp at h⟩
  | none =>
    cases l with
    | nil =>
      have : join p none .nil r = r := by cases r <;> rfl
      rw [this]
      exact hr.mono (by omega) (by omega)
    | node k u a b =>
      cases r with
      | nil => exact hl.mono (by omega) (by omega)
      | node k2 u2 a2 b2 => exact ⟨hp, h1, h2, hl, hr, fun _ => ⟨by simp, by simp⟩⟩

/-- Every entry is a prefix inside. -/
theorem ents_in {lo hi : Nat} {t : Tr} (h : WF lo hi t) : ∀ e ∈ ents t, e.1.Ok ∧ lo ≤ e.1.x ∧ e.1.x + e.1.s ≤ hi := by
  induction t generalizing lo hi with
  | nil => intro e he; simp [ents] at he
  | node k u l r il ir =>
    obtain ⟨a, b, c, d, e, f⟩ := h
    have h2 := h2_le k
    intro x hx
    rw [ents, List.mem_append, List.mem_append] at hx
    rcases hx with hx | hx | hx
    · cases u with
      | none => simp [own] at hx
      | some v => simp [own] at hx; subst hx; exact ⟨a, b, c⟩
    · have := il d x hx; exact ⟨this.1, by omega, by omega⟩
    · have := ir e x hx; exact ⟨this.1, by omega, by omega⟩

/-- What two numbers have in common. -/
def same (x y : Nat) : Nat := 32 - Lib.bitLen (x ^^^ y)
def comN (p q : K) : Nat := min (min p.n q.n) (same p.x q.x)
def com (p q : K) : K := ⟨p.x / 2 ^ (32 - comN p q) * 2 ^ (32 - comN p q), comN p q⟩

theorem xor_zero {x y : Nat} (h : x ^^^ y = 0) : x = y := by
  refine Nat.eq_of_testBit_eq fun i => ?_
  have h1 : (x ^^^ y).testBit i = false := by rw [h]; simp
  rw [Nat.testBit_xor] at h1
  cases hx : x.testBit i <;> cases hy : y.testBit i <;> simp_all

theorem xor_lt {x y k : Nat} (h : x ^^^ y < 2 ^ k) : x / 2 ^ k = y / 2 ^ k := by
  have e : (x ^^^ y) >>> k = 0 := by rw [Nat.shiftRight_eq_div_pow]; exact Nat.div_eq_of_lt h
  rw [Nat.shiftRight_xor_distrib] at e
  rw [← Nat.shiftRight_eq_div_pow, ← Nat.shiftRight_eq_div_pow]
  exact xor_zero e

theorem xor_ge {x y k : Nat} (h : 2 ^ k ≤ x ^^^ y) : x / 2 ^ k ≠ y / 2 ^ k := by
  intro e
  have h1 : (x ^^^ y) >>> k = 0 := by
    rw [Nat.shiftRight_xor_distrib, Nat.shiftRight_eq_div_pow, Nat.shiftRight_eq_div_pow, e, Nat.xor_self]
  rw [Nat.shiftRight_eq_div_pow] at h1
  have := Nat.div_pos h (Nat.pow_pos (by omega : 0 < 2))
  omega

theorem len_facts {x y : Nat} (hx : x < 4294967296) (hy : y < 4294967296) : x ^^^ y < 2 ^ Lib.bitLen (x ^^^ y) ∧ Lib.bitLen (x ^^^ y) ≤ 32 ∧ (x ≠ y → 1 ≤ Lib.bitLen (x ^^^ y) ∧ 2 ^ (Lib.bitLen (x ^^^ y) - 1) ≤ x ^^^ y) := by
  have h32 : x ^^^ y < 2 ^ 32 := Nat.xor_lt_two_pow (by simpa using hx) (by simpa using hy)
  by_cases h0 : x ^^^ y = 0
  · have := xor_zero h0
    subst this
    rw [h0]
    exact ⟨by decide, by decide, fun h => absurd rfl h⟩
  · have h64 : x ^^^ y < 2 ^ 64 := Nat.lt_of_lt_of_le h32 (by decide)
    obtain ⟨a, b, c⟩ := Lib.bitLenAux_bounds 64 (x ^^^ y) h64 h0
    exact ⟨c, Lib.bitLen_le _ 32 (by omega) h32, fun _ => ⟨a, b⟩⟩

theorem com_facts {p q : K} (hp : p.Ok) (hq : q.Ok) : (com p q).Ok ∧ Ins p (com p q) ∧ Ins q (com p q) ∧ (com p q ≠ p → com p q ≠ q → (p.x < (com p q).x + (com p q).h ↔ ¬ q.x < (com p q).x + (com p q).h)) := by
  obtain ⟨f1, f2, f3⟩ := len_facts hp.2.2 hq.2.2
  have hn : (com p q).n = comN p q := rfl
  have hx : (com p q).x = p.x / (com p q).s * (com p q).s := rfl
  have hle : comN p q ≤ p.n ∧ comN p q ≤ q.n ∧ comN p q ≤ same p.x q.x := by unfold comN; omega
  have hp1 := hp.1
  have hS : (com p q).s = 2 ^ (32 - comN p q) := rfl
  have hpow : 2 ^ Lib.bitLen (p.x ^^^ q.x) ≤ 2 ^ (32 - comN p q) := Nat.pow_le_pow_right (by omega) (by unfold same at hle; omega)
  have heq : p.x / (com p q).s = q.x / (com p q).s := by rw [hS]; exact xor_lt (Nat.lt_of_lt_of_le f1 hpow)
  have hpos := (com p q).s_pos
  have dP : p.s ∣ (com p q).s := s_dvd (by rw [hn]; omega)
  have dQ : q.s ∣ (com p q).s := s_dvd (by rw [hn]; omega)
  have a1 : (com p q).x ≤ p.x := by rw [hx]; exact Nat.div_mul_le_self _ _
  have a2 : p.x < (com p q).x + (com p q).s := by
    rw [hx]
    have := Nat.lt_div_mul_add (a := p.x) hpos
    omega
  have b1 : (com p q).x ≤ q.x := by rw [hx, heq]; exact Nat.div_mul_le_self _ _
  have b2 : q.x < (com p q).x + (com p q).s := by
    rw [hx, heq]
    have := Nat.lt_div_mul_add (a := q.x) hpos
    omega
  have dX : (com p q).s ∣ (com p q).x := by rw [hx]; exact Nat.dvd_mul_left _ _
  have hok : (com p q).Ok := ⟨by rw [hn]; omega, dX, by have := hp.2.2; omega⟩
  have i1 : Ins p (com p q) := ⟨a1, step hp.2.1 (Nat.dvd_add (Nat.dvd_trans dP dX) dP) a2⟩
  have i2 : Ins q (com p q) := ⟨b1, step hq.2.1 (Nat.dvd_add (Nat.dvd_trans dQ dX) dQ) b2⟩
  refine ⟨hok, i1, i2, fun n1 n2 => ?_⟩
  have l1 := (halves hp hok i1 (Ne.symm n1)).1
  have l2 := (halves hq hok i2 (Ne.symm n2)).1
  rw [hn] at l1 l2
  have hm : comN p q = same p.x q.x := by unfold comN at l1 l2 ⊢; omega
  have hne : p.x ≠ q.x := by
    intro e
    have : same p.x q.x = 32 := by unfold same; rw [e, Nat.xor_self]; rfl
    omega
  obtain ⟨g1, g2⟩ := f3 hne
  have hL : 32 - comN p q = Lib.bitLen (p.x ^^^ q.x) := by rw [hm]; unfold same; omega
  have hh : (com p q).h = 2 ^ (Lib.bitLen (p.x ^^^ q.x) - 1) := by
    unfold K.h
    rw [hS, hL]
    obtain ⟨m, hm⟩ : ∃ m, Lib.bitLen (p.x ^^^ q.x) = m + 1 := ⟨_, (Nat.sub_add_cancel g1).symm⟩
    rw [hm, Nat.pow_succ, Nat.mul_div_cancel _ (by omega)]
    rfl
  have hd := xor_ge g2
  rw [← hh] at hd
  have e2 := s_two (q := com p q) (by rw [hn]; omega)
  generalize com p q = f at *
  have hhp : 0 < f.h := by omega
  obtain ⟨c, hc⟩ : ∃ c, f.x = c * f.h := by
    obtain ⟨i, hi⟩ := dX
    exact ⟨i * 2, by rw [hi, e2, Nat.mul_assoc i 2, Nat.mul_comm i]⟩
  have key : ∀ y, f.x ≤ y → y < f.x + f.s → (y < f.x + f.h ↔ y / f.h = c) := fun y h1 h2 => by
    constructor
    · intro h3
      refine Nat.div_eq_of_lt_le (by rw [← hc]; exact h1) ?_
      rw [Nat.succ_mul, ← hc]; exact h3
    · intro h3
      have := Nat.lt_div_mul_add (a := y) hhp
      rw [h3, ← hc] at this
      exact this
  have key2 : ∀ y, f.x ≤ y → y < f.x + f.s → ¬ y < f.x + f.h → y / f.h = c + 1 := fun y h1 h2 h3 => by
    refine Nat.div_eq_of_lt_le ?_ ?_
    · rw [Nat.succ_mul, ← hc]; omega
    · rw [Nat.succ_mul, Nat.succ_mul, ← hc]; omega
  constructor
  · intro h1 h2
    exact hd (((key _ a1 a2).1 h1).trans ((key _ b1 b2).1 h2).symm)
  · intro h1
    refine Classical.byContradiction fun h2 => hd ?_
    rw [key2 _ a1 a2 h2, key2 _ b1 b2 h1]

/-- In which half of a prefix an address lies, as it is told by shifts. -/
def side (a n : Nat) : Nat := a * 2 ^ n % 4294967296 / 2147483648

theorem side_lt (a n : Nat) : side a n < 2 := by unfold side; omega

theorem side_last (a : Nat) : side a 32 = 0 := by
  unfold side
  rw [show (2 : Nat) ^ 32 = 4294967296 by decide, Nat.mul_mod_left]

theorem side_of {k : K} {a : Nat} (hk : k.Ok) (hn : k.n < 32) (h1 : k.x ≤ a) (h2 : a < k.x + k.s) : side a k.n = if a < k.x + k.h then 0 else 1 := by
  have hS : (4294967296 : Nat) = k.s * 2 ^ k.n := by
    unfold K.s
    rw [← Nat.pow_add, show 32 - k.n + k.n = 32 by omega]
  have hH : (2147483648 : Nat) = k.h * 2 ^ k.n := by
    have := s_two hn
    rw [this, Nat.mul_assoc] at hS
    omega
  have hp : 0 < 2 ^ k.n := Nat.pow_pos (by omega)
  unfold side
  rw [hS, Nat.mul_mod_mul_right, hH, Nat.mul_div_mul_right _ _ hp]
  obtain ⟨i, hi⟩ := hk.2.1
  have e : a % k.s = a - k.x := by
    have : a = (a - k.x) + k.s * i := by omega
    rw [this, Nat.add_mul_mod_self_left, Nat.mod_eq_of_lt (by omega)]
    omega
  rw [e]
  have e2 := s_two hn
  have hpos := k.s_pos
  split
  · exact Nat.div_eq_of_lt (by omega)
  · exact Nat.div_eq_of_lt_le (by omega) (by omega)

/-- The tree with p's value v (none: p has none). -/
def hang : Tr → K → Option Int → Tr
  | .nil, p, v => join p v .nil .nil
  | .node k u l r, p, v =>
    if k = p then join p v l r
    else if com p k = k then (if side p.x k.n = 0 then join k u (hang l p v) r else join k u l (hang r p v))
    else if com p k = p then (if side k.x p.n = 0 then join p v (.node k u l r) .nil else join p v .nil (.node k u l r))
    else if side k.x (com p k).n = 0 then join (com p k) none (.node k u l r) (join p v .nil .nil) else join (com p k) none (join p v .nil .nil) (.node k u l r)

end Tri
end Go.Proofs.Ytmnafocmbcgdiab
